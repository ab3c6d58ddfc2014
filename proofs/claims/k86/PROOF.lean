import PyProof.Rows.All
import Wide.All
import OpenK.AllK
import Wide.FinOn
import Lean
import PyProof.EqAt
import PyProof.EqKinds
import PyProof.TupleCall
import PySem.Challenge.RW_earlyscribe_k86_refused_texts
set_option maxHeartbeats 4000000
set_option Elab.async false
set_option linter.all false
set_option maxRecDepth 100000
/-! THE HAND LAYER, for ints, bools, texts, own classes, LISTS and tuples (index, slices, in, append, pop ..), calls, loops. Paste it whole ahead of your own text; what your proof does not reach may be deleted. -/
namespace L2
open PySem PySem.Spec PyProof.Rows

abbrev Key := Sum Int Str
def keyIs : Key → Value → Bool
  | .inl k, v => Value.isInt k v
  | .inr x, v => Value.isStrOf x v
def keyH (w : World) : Key → Int
  | .inl k => hashInt k
  | .inr x => hashStr w x
theorem keyIs_shape : ∀ {k : Key} {v : Value}, keyIs k v = true → (∃ i t, k = Sum.inl i ∧ v = Value.int i t) ∨ (∃ x t, k = Sum.inr x ∧ v = Value.str x t)
  | .inl i, v, h => by
    obtain ⟨t, e⟩ := Value.isInt_shape (k := i) (v := v) h
    exact .inl ⟨i, t, rfl, e⟩
  | .inr x, v, h => by
    obtain ⟨t, e⟩ := Value.isStrOf_shape (x := x) (v := v) h
    exact .inr ⟨x, t, rfl, e⟩
theorem keyIs_int (i : Int) (t : Tok) : keyIs (.inl i) (.int i t) = true := by simp [keyIs, Value.isInt]
theorem keyIs_str (x : Str) (t : Tok) : keyIs (.inr x) (.str x t) = true := by simp [keyIs, Value.isStrOf]
theorem key_ll (a b : Int) : decide ((Sum.inl a : Key) = Sum.inl b) = (a == b) := by
  by_cases e : a = b
  · subst e; simp
  · have h : ¬ (Sum.inl a : Key) = Sum.inl b := fun q => e (Sum.inl.inj q)
    rw [decide_eq_false h]
    exact (beq_eq_false_iff_ne.mpr e).symm
theorem key_rr (a b : Str) : decide ((Sum.inr a : Key) = Sum.inr b) = decide (a = b) := by
  by_cases e : a = b
  · subst e; simp
  · have h : ¬ (Sum.inr a : Key) = Sum.inr b := fun q => e (Sum.inr.inj q)
    rw [decide_eq_false h, decide_eq_false e]
theorem key_lr (a : Int) (b : Str) : decide ((Sum.inl a : Key) = Sum.inr b) = false := decide_eq_false (fun q => nomatch q)
theorem key_rl (a : Str) (b : Int) : decide ((Sum.inr a : Key) = Sum.inl b) = false := decide_eq_false (fun q => nomatch q)

def mixKind (prog : Program) (w : World) : PySem.KeyKind prog w Key where
  is := keyIs
  hash := keyH w
  inj := fun v a b ha hb => by
    rcases keyIs_shape ha with ⟨i, t, rfl, rfl⟩ | ⟨x, t, rfl, rfl⟩
    · rcases keyIs_shape hb with ⟨j, u, rfl, e⟩ | ⟨y, u, rfl, e⟩
      · injection e with e1 _; rw [e1]
      · exact nomatch e
    · rcases keyIs_shape hb with ⟨j, u, rfl, e⟩ | ⟨y, u, rfl, e⟩
      · exact nomatch e
      · injection e with e1 _; rw [e1]
  byValue := fun k v h => by
    rcases keyIs_shape h with ⟨i, t, rfl, rfl⟩ | ⟨x, t, rfl, rfl⟩ <;> rfl
  pyHash := fun hv h => by
    rcases keyIs_shape hv with ⟨i, t, rfl, rfl⟩ | ⟨x, t, rfl, rfl⟩
    · exact wpAny_pyHash_int h
    · exact wpAny_pyHash_str h
  eqBool := fun hu hv h => by
    rcases keyIs_shape hu with ⟨i, t, rfl, rfl⟩ | ⟨x, t, rfl, rfl⟩
    · rcases keyIs_shape hv with ⟨j, u, rfl, rfl⟩ | ⟨y, u, rfl, rfl⟩
      · rw [key_ll] at h; exact wpAny_eqBool_int h
      · rw [key_lr] at h; exact SeqAt.EqAt.int_str i t y u _ _ _ _ h
    · rcases keyIs_shape hv with ⟨j, u, rfl, rfl⟩ | ⟨y, u, rfl, rfl⟩
      · rw [key_rl] at h; exact SeqAt.EqAt.str_int x t j u _ _ _ _ h
      · rw [key_rr] at h; exact wpAny_eqBool_str h
  «strs» := fun k x t v h => by
    rcases keyIs_shape h with ⟨i, u, rfl, e⟩ | ⟨y, u, rfl, e⟩
    · exact nomatch e
    · injection e with e1 _
      subst e1
      cases v <;> rfl

end L2

namespace L2
open PySem PySem.Spec PyProof.Rows

inductive V where
  | non | bl (b : Bool) | int (i : Int) | str (x : Str) | byt (b : Array UInt8) | flt (b : UInt64) | ref (a : Addr) | ty (n : String)
  deriving DecidableEq

def RelV : V → Value → Prop
  | .non, u => u = Value.none
  | .bl b, u => u = Value.bool b
  | .int i, u => ∃ t, u = Value.int i t
  | .str x, u => ∃ t, u = Value.str x t
  | .byt b, u => ∃ t, u = Value.bytes b t
  | .flt b, u => ∃ t, u = Value.float b t
  | .ref a, u => u = Value.ref a
  | .ty n, u => u = Value.type n

abbrev Vals : List V → List Value → Prop := Paired RelV
theorem Vals.length {xs : List V} {us : List Value} (r : Vals xs us) : xs.length = us.length := Paired.length r
theorem Vals.get : ∀ {xs : List V} {us : List Value} {i : Nat} {x : V}, Vals xs us → xs[i]? = some x → ∃ u, us[i]? = some u ∧ RelV x u
  | _, _, _, _, .nil, e => by simp at e
  | _, _, 0, _, .cons r _, e => by simp at e; subst e; exact ⟨_, rfl, r⟩
  | _, _, i + 1, x, .cons _ t, e => by
    obtain ⟨u, h1, h2⟩ := Vals.get (i := i) (x := x) t (by simpa using e)
    exact ⟨u, by simpa using h1, h2⟩
theorem Vals.set {x : V} {u : Value} (r : RelV x u) : ∀ {xs : List V} {us : List Value} (i : Nat), Vals xs us → Vals (xs.set i x) (us.set i u)
  | _, _, _, .nil => .nil
  | _, _, 0, .cons _ t => .cons r t
  | _, _, i + 1, .cons q t => .cons q (Vals.set r i t)
theorem Vals.append : ∀ {xs ys : List V} {us ws : List Value}, Vals xs us → Vals ys ws → Vals (xs ++ ys) (us ++ ws)
  | _, _, _, _, .nil, s => s
  | _, _, _, _, .cons r t, s => .cons r (Vals.append t s)
theorem Vals.take : ∀ {xs : List V} {us : List Value} (n : Nat), Vals xs us → Vals (xs.take n) (us.take n)
  | _, _, 0, _ => .nil
  | _, _, _ + 1, .nil => .nil
  | _, _, n + 1, .cons r t => .cons r (Vals.take n t)
theorem Vals.drop : ∀ {xs : List V} {us : List Value} (n : Nat), Vals xs us → Vals (xs.drop n) (us.drop n)
  | _, _, 0, r => r
  | _, _, _ + 1, .nil => .nil
  | _, _, n + 1, .cons _ t => Vals.drop n t
def RelO : Option V → Option Value → Prop
  | some v, some u => RelV v u
  | none, none => True
  | _, _ => False
def KV {κ : Type} : List (κ × V) → List (κ × Value) → Prop := Paired fun (p : κ × V) (q : κ × Value) => p.1 = q.1 ∧ RelV p.2 q.2

def kV : Key → V
  | .inl i => .int i
  | .inr x => .str x

inductive HO where
  /-- a list -/
  | lst (xs : List V)
  /-- a tuple (never changes) -/
  | tup (xs : List V)
  /-- a dict whose keys are ints and texts; one whose keys are tuples of ints and texts (the empty one is both) -/
  | dK (kvs : List (Key × V)) | dT (kvs : List (List Key × V))
  /-- a set of ints: its members, its size -/
  | set (S : Int → Bool) (n : Nat)
  /-- an instance of the class at C, its dict at dx, its attributes -/
  | ins (C dx : Addr) (fs : List (Str × V))
  /-- the dict of the instance at x -/
  | own (x : Addr)
  /-- the dict of an exception -/
  | xd (fs : List (Str × V))
  /-- a bound method, f of x -/
  | met (f x : Addr)
  /-- a range object lo, lo + 1, .. below hi -/
  | rng (lo hi : Int)
  /-- a thing that is known to the object (the script; a dict while a loop walks it): read, never written while it is so -/
  | frz (o : Obj) (u : HO)
  /-- a code object's table -/
  | tbl (ps : Array Value)
  /-- any other thing, by what is true of its one object (a def of one's own: SetO a S n := HO.ext fun h => ..) -/
  | ext (φ : Heap → Prop)

abbrev Hp := Addr → Option HO
def upd (H : Hp) (a : Addr) (o : HO) : Hp := fun b => if b = a then some o else H b
theorem upd_same {H : Hp} {a : Addr} {o : HO} : upd H a o a = some o := by unfold upd; rw [if_pos rfl]
theorem upd_ne {H : Hp} {a b : Addr} {o : HO} (h : b ≠ a) : upd H a o b = H b := by unfold upd; rw [if_neg h]
theorem ne_of_none {H : Hp} {a b : Addr} {o : HO} (h : H a = some o) (h' : H b = none) : a ≠ b := by
  intro e; subst e; rw [h] at h'; cases h'

section
variable (P : Program) (w : World)
def ObjOk (H : Hp) (h : Heap) (a : Addr) : HO → Prop
  | .lst xs => xs.length ≤ sizeLine ∧ ∃ (its : List Value) (n : Nat), Vals xs its ∧ h.get? a = some { cls := .type "list", data := .seq its.toArray n }
  | .tup xs => xs.length ≤ sizeLine ∧ ∃ its : List Value, Vals xs its ∧ IsTup h a its.toArray
  | .dK kvs => kvs.length ≤ sizeLine ∧ (a == sysModules) = false ∧ ∃ vs, KV kvs vs ∧ h.DictOf (mixKind P w) a vs
  | .dT kvs => kvs.length ≤ sizeLine ∧ (a == sysModules) = false ∧ ∃ xs : List (List Key × Addr × Value),
      Paired (fun (p : List Key × V) (q : List Key × Addr × Value) => p.1 = q.1 ∧ H q.2.1 = some (.tup (p.1.map kV)) ∧ RelV p.2 q.2.2) kvs xs ∧
      ∃ o es ep, h.get? a = some o ∧ o.ExactDict ∧ o.data = .dict es ep ∧ es.toList = xs.map (entryOfKey (tupleKind (mixKind P w))) ∧ (xs.map (·.1)).Nodup
  | .set S n => h.SetOf (intKind P w) a S n
  | .ins C dx fs => H dx = some (.own a) ∧ fs.length ≤ 1000 ∧ dx ≠ a ∧ h.get? a = some (PySem.W.instObj C dx) ∧
      ∃ mA, h.Ns1 dx mA ∧ (∀ f, RelO (fs.lookup f) (mA f)) ∧ PySem.Within mA (fs.map (·.1))
  | .own _ => ∃ o, h.get? a = some o
  | .xd fs => ∃ mA, h.Ns1 a mA ∧ ∀ f, RelO (fs.lookup f) (mA f)
  | .rng lo hi => ∃ t u v, h.get? a = some { cls := .type "range", data := .fields #[.int lo t, .int hi u, .int 1 v] }
  | .frz o u => h.get? a = some o ∧ ObjOk H h a u
  | .tbl ps => h.get? a = some { cls := .none, data := .fields ps }
  | .met f x => h.get? a = some (PySem.W.methodObj (.ref f) (.ref x))
  | .ext φ => φ h ∧ (∃ o, h.get? a = some o) ∧ ∀ h1 h2 : Heap, φ h1 → (∀ o, h1.get? a = some o → h2.get? a = some o) → φ h2
def HOk (H : Hp) (h : Heap) : Prop := ∀ a o, H a = some o → ObjOk P w H h a o
end

section
variable {P : Program} {w : World} {H H' : Hp} {h h' : Heap} {a : Addr} {o : HO}
theorem ObjOk.lt (x : ObjOk P w H h a o) : a < h.objs.size := by
  cases o with
  | lst xs => obtain ⟨_, _, _, _, e⟩ := x; exact Heap.lt_size e
  | tup xs => obtain ⟨_, _, _, p⟩ := x; exact p.lt
  | dK kvs => obtain ⟨_, _, _, _, o, _, _, e, _⟩ := x; exact Heap.lt_size e
  | dT kvs => obtain ⟨_, _, _, _, o, _, _, e, _⟩ := x; exact Heap.lt_size e
  | set S n => obtain ⟨o, _, _, _, e, _⟩ := x; exact Heap.lt_size e
  | ins C dx fs => obtain ⟨_, _, _, e, _⟩ := x; exact Heap.lt_size e
  | own y => obtain ⟨_, e⟩ := x; exact Heap.lt_size e
  | xd fs => obtain ⟨_, ⟨_, _, _, e, _⟩, _⟩ := x; exact Heap.lt_size e
  | rng lo hi => obtain ⟨_, _, _, e⟩ := x; exact Heap.lt_size e
  | frz ob u => obtain ⟨e, _⟩ := x; exact Heap.lt_size e
  | tbl ps => exact Heap.lt_size (show h.get? a = some _ from x)
  | met f y => exact Heap.lt_size (show h.get? a = some _ from x)
  | ext φ => obtain ⟨_, ⟨_, e⟩, _⟩ := x; exact Heap.lt_size e
theorem Paired.mapP {α β : Type} {F G : α → β → Prop} : ∀ {l₁ : List α} {l₂ : List β}, Paired F l₁ l₂ → (∀ a b, F a b → G a b) → Paired G l₁ l₂
  | _, _, .nil, _ => .nil
  | _, _, .cons r t, f => .cons (f _ _ r) (Paired.mapP t f)
theorem ObjOk.stay (x : ObjOk P w H h a o) (k : ∀ b u, (b = a ∨ H b = some (.own a)) → h.get? b = some u → h'.get? b = some u)
    (ho : ∀ b, H b = some (.own a) → H' b = some (.own a)) (ht : ∀ b xs, H b = some (.tup xs) → H' b = some (.tup xs)) : ObjOk P w H' h' a o := by
  induction o with
  | lst xs => obtain ⟨z, its, n, r, e⟩ := x; exact ⟨z, its, n, r, k _ _ (.inl rfl) e⟩
  | tup xs => obtain ⟨z, its, r, ob, e, c⟩ := x; exact ⟨z, its, r, ob, k _ _ (.inl rfl) e, c⟩
  | dK kvs => obtain ⟨z, y, vs, r, ob, es, ep, e, c⟩ := x; exact ⟨z, y, vs, r, ob, es, ep, k _ _ (.inl rfl) e, c⟩
  | dT kvs =>
    obtain ⟨z, y, xs, r, ob, es, ep, e, c⟩ := x
    exact ⟨z, y, xs, Paired.mapP r fun p q z => ⟨z.1, ht _ _ z.2.1, z.2.2⟩, ob, es, ep, k _ _ (.inl rfl) e, c⟩
  | set S n => obtain ⟨ob, es, ep, t, e, c⟩ := x; exact ⟨ob, es, ep, t, k _ _ (.inl rfl) e, c⟩
  | ins C dx fs =>
    obtain ⟨d, z, ne, e, mA, ⟨od, es, ep, e2, c⟩, r⟩ := x
    exact ⟨ho _ d, z, ne, k _ _ (.inl rfl) e, mA, ⟨od, es, ep, k _ _ (.inr d) e2, c⟩, r⟩
  | own y => obtain ⟨ob, e⟩ := x; exact ⟨ob, k _ _ (.inl rfl) e⟩
  | xd fs => obtain ⟨mA, ⟨od, es, ep, e, c⟩, r⟩ := x; exact ⟨mA, ⟨od, es, ep, k _ _ (.inl rfl) e, c⟩, r⟩
  | rng lo hi => obtain ⟨t, u, v, e⟩ := x; exact ⟨t, u, v, k _ _ (.inl rfl) e⟩
  | frz ob u ih => obtain ⟨e, q⟩ := x; exact ⟨k _ _ (.inl rfl) e, ih q⟩
  | tbl ps =>
    have e : h.get? a = some { cls := .none, data := .fields ps } := x
    show h'.get? a = some { cls := .none, data := .fields ps }
    exact k a _ (.inl rfl) e
  | met f y =>
    have e : h.get? a = some (PySem.W.methodObj (.ref f) (.ref y)) := x
    show h'.get? a = some (PySem.W.methodObj (.ref f) (.ref y))
    exact k a _ (.inl rfl) e
  | ext φ => obtain ⟨p, ⟨o, e⟩, st⟩ := x; exact ⟨st _ _ p fun o q => k _ _ (.inl rfl) q, ⟨o, k _ _ (.inl rfl) e⟩, st⟩
theorem HOk.lt (x : HOk P w H h) (e : H a = some o) : a < h.objs.size := (x a o e).lt
theorem HOk.fresh (x : HOk P w H h) (e : h.objs.size ≤ a) : H a = none := by
  cases q : H a with
  | none => rfl
  | some u => exact absurd (Nat.lt_of_lt_of_le (x.lt q) e) (Nat.lt_irrefl _)
theorem HOk.kept (x : HOk P w H h) (k : ∀ b u, h.get? b = some u → h'.get? b = some u) : HOk P w H h' := fun a o e =>
  (x a o e).stay (fun b u _ q => k b u q) (fun _ q => q) fun _ _ q => q
theorem HOk.laid (x : HOk P w H h) (k : ∀ b u, h.get? b = some u → h'.get? b = some u) (hp : h.objs.size ≤ a) (new : ObjOk P w (upd H a o) h' a o) : HOk P w (upd H a o) h' := fun b u e => by
  have hn := x.fresh hp
  by_cases hb : b = a
  · subst hb; rw [upd_same] at e; cases e; exact new
  · rw [upd_ne hb] at e
    exact (x b u e).stay (fun c v _ q => k c v q) (fun c q => by rw [upd_ne (ne_of_none q hn)]; exact q) fun c xs q => by rw [upd_ne (ne_of_none q hn)]; exact q
end

def Rd (H : Hp) (a : Addr) (u : HO) : Prop := H a = some u ∨ ∃ o, H a = some (.frz o u)
theorem Rd.ok {P : Program} {w : World} {H : Hp} {h : Heap} {a : Addr} {u : HO} (r : Rd H a u) (x : HOk P w H h) : ObjOk P w H h a u := by
  rcases r with r | ⟨o, r⟩
  · exact x a u r
  · obtain ⟨_, q⟩ := x a _ r
    exact q
def Mut : Option HO → Prop
  | some (.lst _) => True
  | some (.dK _) => True
  | some (.dT _) => True
  | some (.set _ _) => True
  | some (.ins _ _ _) => True
  | some (.ext _) => True
  | _ => False
section
variable {P : Program} {w : World} {H : Hp} {h h' : Heap} {x e : Addr} {o' : HO}
theorem HOk.write (ok : HOk P w H h) (mu : Mut (H x)) (he : e = x ∨ H e = some (.own x)) (k : ∀ b u, b ≠ e → h.get? b = some u → h'.get? b = some u) (heo : ∃ u, h'.get? e = some u)
    (new : ObjOk P w (upd H x o') h' x o') : HOk P w (upd H x o') h' := fun b u q => by
  have nown : ∀ c y, H c = some (.own y) → c ≠ x := fun c y r z => by subst z; rw [r] at mu; exact mu
  have ntup : ∀ c xs, H c = some (.tup xs) → c ≠ x := fun c xs r z => by subst z; rw [r] at mu; exact mu
  by_cases hb : b = x
  · subst hb; rw [upd_same] at q; cases q; exact new
  · rw [upd_ne hb] at q
    by_cases hbe : b = e
    · have q' : H b = some (.own x) := by
        rcases he with z | z
        · exact absurd (hbe.trans z) hb
        · rw [hbe]; exact z
      rw [q] at q'; cases q'
      obtain ⟨v, hv⟩ := heo
      exact ⟨v, by rw [hbe]; exact hv⟩
    · refine (ok b u q).stay (fun c v hc r => k c v ?_ r) (fun c r => by rw [upd_ne (nown c b r)]; exact r) fun c xs r => by rw [upd_ne (ntup c xs r)]; exact r
      rcases hc with rfl | hc
      · exact hbe
      · rintro rfl
        rcases he with z | z
        · exact nown c b hc z
        · rw [hc] at z; cases z; exact hb rfl
end

/-! ### kept unless tracked; of the frames at fs (the callers') the slots may change (an exception that passes writes there); of the records at ex (iterators) nothing is said -/
structure Un (fs ex : List Addr) (H H' : Hp) (h h' : Heap) : Prop where
  keep : ∀ b o, h.get? b = some o → H b = none → b ∉ fs → b ∉ ex → h'.get? b = some o
  slot : ∀ b o, h.get? b = some o → H b = none → b ∈ fs → b ∉ ex → ∃ sl, h'.get? b = some { o with slots := sl }
  free : ∀ b o, h.get? b = some o → H b = none → b ∉ ex → H' b = none
  there : ∀ b o, h.get? b = some o → b ∉ ex → ∃ o', h'.get? b = some o'
  tups : ∀ b xs, H b = some (.tup xs) → H' b = some (.tup xs)
  frzs : ∀ b o u, H b = some (.frz o u) → H' b = some (.frz o u)
  tbls : ∀ b ps, H b = some (.tbl ps) → ∃ more, H' b = some (.tbl (ps ++ more))
section
variable {fs fs' ex ex' : List Addr} {H H1 H2 : Hp} {h h1 h2 h' : Heap} {a x e : Addr} {o : HO}
theorem Un.any (u : Un fs ex H H1 h h1) {b : Addr} {ob : Obj} (q : h.get? b = some ob) (n : H b = none) (hx : b ∉ ex) : ∃ sl, h1.get? b = some { ob with slots := sl } := by
  by_cases hb : b ∈ fs
  · exact u.slot b ob q n hb hx
  · exact ⟨ob.slots, u.keep b ob q n hb hx⟩
theorem Un.kept (k : ∀ b u, h.get? b = some u → h'.get? b = some u) : Un fs ex H H h h' :=
  ⟨fun b ob q _ _ _ => k b ob q, fun b ob q _ _ _ => ⟨ob.slots, k b ob q⟩, fun _ _ _ n _ => n, fun b ob q _ => ⟨ob, k b ob q⟩, fun _ _ q => q, fun _ _ _ q => q, fun _ ps q => ⟨#[], by rw [q]; simp⟩⟩
theorem Un.refl : Un fs ex H H h h := Un.kept fun _ _ q => q
theorem Un.laid (k : ∀ b u, h.get? b = some u → h'.get? b = some u) (hp : h.objs.size ≤ a) (hn : H a = none) : Un fs ex H (upd H a o) h h' where
  keep := fun b u q _ _ _ => k b u q
  slot := fun b u q _ _ _ => ⟨u.slots, k b u q⟩
  free := fun b u q n _ => by rw [upd_ne (Nat.ne_of_lt (Nat.lt_of_lt_of_le (Heap.lt_size q) hp))]; exact n
  there := fun b u q _ => ⟨u, k b u q⟩
  tups := fun b xs q => by rw [upd_ne (ne_of_none q hn)]; exact q
  frzs := fun b u xs q => by rw [upd_ne (ne_of_none q hn)]; exact q
  tbls := fun b ps q => ⟨#[], by rw [upd_ne (ne_of_none q hn), q]; simp⟩
theorem Un.write (mu : Mut (H x)) (he : e = x ∨ H e = some (.own x)) (k : ∀ b u, b ≠ e → h.get? b = some u → h'.get? b = some u) (heo : ∃ u, h'.get? e = some u) : Un fs ex H (upd H x o) h h' := by
  have hx : ∀ b, H b = none → b ≠ x := fun b n z => by subst z; rw [n] at mu; exact mu
  have hb : ∀ b, H b = none → b ≠ e := fun b n z => by
    subst z
    rcases he with r | r
    · exact hx b n r
    · rw [n] at r; cases r
  have hm : ∀ b u, H b = some u → ¬ Mut (some u) → b ≠ x := fun b u q nm z => by subst z; rw [q] at mu; exact nm mu
  refine ⟨fun b u q n _ _ => k b u (hb b n) q, fun b u q n _ _ => ⟨u.slots, k b u (hb b n) q⟩, fun b u q n _ => by rw [upd_ne (hx b n)]; exact n, fun b u q _ => ?_,
    fun b xs q => by rw [upd_ne (hm b _ q fun z => z)]; exact q, fun b u xs q => by rw [upd_ne (hm b _ q fun z => z)]; exact q, fun b ps q => ⟨#[], by rw [upd_ne (hm b _ q fun z => z), q]; simp⟩⟩
  by_cases hbe : b = e
  · subst hbe; exact heo
  · exact ⟨u, k b u hbe q⟩
end

/-! ### the heap without what is tracked -/
def trk (h : Heap) (H : Hp) : List Addr := (List.range h.objs.size).filter fun a => (H a).isSome
def hidT (h : Heap) (H : Hp) : Heap := PySem.W.hideAll h (trk h H)
theorem hidT_size (h : Heap) (H : Hp) : (hidT h H).objs.size = h.objs.size := PySem.W.hideAll_size _ _
theorem hidT_get {h : Heap} {H : Hp} {b : Addr} {o : Obj} (e : h.get? b = some o) (n : H b = none) : (hidT h H).get? b = some o :=
  PySem.W.hideAll_get _ e fun hm => by
    have q : (H b).isSome = true := (List.mem_filter.mp hm).2
    rw [n] at q; simp at q
theorem of_hidT {h : Heap} {H : Hp} {b : Addr} {o : Obj} (e : (hidT h H).get? b = some o) : h.get? b = some o ∧ H b = none := by
  have e' : h.get? b = some o := PySem.W.of_hideAll (trk h H) e
  refine ⟨e', ?_⟩
  cases q : H b with
  | none => rfl
  | some x =>
    have hm : b ∈ trk h H := List.mem_filter.mpr ⟨List.mem_range.mpr (Heap.lt_size e'), by simp [q]⟩
    have z : (hidT h H).get? b = none := PySem.W.hideAll_none (trk h H) hm
    rw [z] at e; cases e

/-! ### OpenK's ledger, filled with every new object but one -/
def allNews (g h : Heap) (L : Addr) : List (Addr × Obj) := (List.range h.objs.size).filterMap fun a => if a = L ∨ (g.get? a).isSome = true then none else (h.get? a).map fun o => (a, o)
def rest (g h : Heap) (L d : Addr) : List (Addr × Obj) := (allNews g h L).filter fun p => decide (p.1 ≠ d)
end L2

namespace L2
open PySem PySem.Spec PyProof.Rows

structure Mod (K : PySem.W.Frag) (mg : Str → Option Value) (base : Heap) : Prop where
  kin : K.In base
  glob : base.Ns mainGlobals mg
  blt : ∃ mb, base.Ns builtinsNs mb ∧ ∀ x : Str, x ≠ "__name__" → mb x = bootBuiltins x
  nolimit : base.NoLimit

/-- the context: a def's body (or a comprehension's block) running. base: fixed through the whole law; s₀, H₀: the entry; outer: the frames whose slots others may change (a def's callers); stack: all frames that run;
   ex: iterators that were made ahead of the entry and are walked here (a comprehension's); fn: the names whose cells were made at the entry (a def: all; a comprehension's block: its own); calm: not within an except suite; pn: pins that every state bears; xe: what is wanted of an exception that leaves the code -/
structure Cx where
  prog : Program
  w : World
  K : PySem.W.Frag
  mg : Str → Option Value
  base : Heap
  A : Around
  N : List Str
  s₀ : Shared
  H₀ : Hp
  env : Env
  outer : List Env
  stack : List Env
  ex : List Addr
  fn : Str → Bool
  calm : Bool
  pn : List (Addr × Obj)
  xe : Value → Shared → Prop
def frs (l : List Env) : List Addr := l.filterMap (·.frame)
abbrev Cx.fs (X : Cx) : List Addr := frs X.outer

def Vis (sc : Scope) (x : Str) : Prop := sc.names.lookup x = some .local ∨ sc.names.lookup x = some .cell ∨ sc.names.lookup x = some .free
def Loc (sc : Scope) (x : Str) : Prop := sc.names.lookup x = some .local ∨ sc.names.lookup x = some .cell
def Look (env : Env) (h : Heap) (m : Str → Option Value) (x : Str) (u : Value) : Prop :=
  (env.kindOf x = some .local ∧ m x = some u) ∨ ((env.kindOf x = some .cell ∨ env.kindOf x = some .free) ∧ ∃ c, env.cells.lookup x = some c ∧ h.IsCell c (some u))

structure Cx.Ok (X : Cx) : Prop where
  mod : Mod X.K X.mg X.base
  kind : X.env.scope.kind = .function
  glob : X.env.globals = mainGlobals
  blt : X.env.builtins = builtinsNs
  above : X.s₀.heap.objs.size ≤ X.env.locals
  inj : ∀ x y c, X.env.cells.lookup x = some c → X.env.cells.lookup y = some c → x = y
  has : ∀ x, (X.env.kindOf x = some .cell ∨ X.env.kindOf x = some .free) → ∃ c, X.env.cells.lookup x = some c
  cab : ∀ x c, X.fn x = true → X.env.cells.lookup x = some c → X.s₀.heap.objs.size ≤ c
  hd : X.calm = true → X.A.handled = none
  frames : X.A.frames = some X.stack
  stk : X.stack = X.outer ∨ (X.stack = X.env :: X.outer ∧ X.env.frame = some X.env.locals)
  exf : ∀ b ∈ X.ex, b ≠ X.env.locals ∧ ∀ x c, X.env.cells.lookup x = some c → c ≠ b
  bs : ∀ b o, X.base.get? b = some o → X.s₀.heap.get? b = some o ∧ X.H₀ b = none
  bsz : X.base.objs.size ≤ X.s₀.heap.objs.size
  noex : ∀ b o, X.base.get? b = some o → b ∉ X.ex
  exfs : ∀ b ∈ X.ex, b ∉ X.fs
  funs : X.s₀.heap.FunFrames X.base X.outer
  frf : ∀ b ∈ X.fs, X.H₀ b = none

structure Inv (X : Cx) (pins : List (Addr × Obj)) (σ : List (Option V)) (H : Hp) (s : Shared) : Prop where
  ok : X.Ok
  os : s.os = X.s₀.os
  bare : AllBare s.gens
  base : Un X.fs X.ex X.H₀ H X.s₀.heap s.heap
  loc : ∃ m, s.heap.Ns X.env.locals m ∧ ∀ (i : Nat) (x : Str) (v : V), X.N[i]? = some x → σ[i]? = some (some v) → Vis X.env.scope x → ∃ u, RelV v u ∧ Look X.env s.heap m x u
  cell : ∀ x c, X.env.cells.lookup x = some c → ∃ v, s.heap.IsCell c v
  free : H X.env.locals = none
  freeC : ∀ x c, X.env.cells.lookup x = some c → H c = none
  pin : ∀ p ∈ X.pn ++ pins, s.heap.get? p.1 = some p.2 ∧ H p.1 = none ∧ p.1 ≠ X.env.locals ∧ p.1 ∉ X.fs ∧ ∀ v, p.2.data ≠ .cell v
  hok : HOk X.prog X.w H s.heap
  len : σ.length = X.N.length

section
variable {X : Cx} {pins : List (Addr × Obj)} {σ : List (Option V)} {H H' : Hp} {s : Shared} {h' : Heap}

theorem Cx.Ok.nofr (ok : X.Ok) {b : Addr} {o : Obj} (e : X.base.get? b = some o) : b ∉ X.fs := fun hb => by
  have := (ok.funs.mem hb).1
  rw [e] at this; cases this
theorem Inv.bs (I : Inv X pins σ H s) : ∀ b o, X.base.get? b = some o → s.heap.get? b = some o ∧ H b = none := fun b o e =>
  ⟨I.base.keep b o (I.ok.bs b o e).1 (I.ok.bs b o e).2 (I.ok.nofr e) (I.ok.noex b o e), I.base.free b o (I.ok.bs b o e).1 (I.ok.bs b o e).2 (I.ok.noex b o e)⟩
theorem Inv.bk (I : Inv X pins σ H s) : ∀ b o, X.base.get? b = some o → s.heap.get? b = some o := fun b o e => (I.bs b o e).1
theorem Inv.mod (I : Inv X pins σ H s) : Mod X.K X.mg X.base := I.ok.mod
theorem Inv.kIn (I : Inv X pins σ H s) : X.K.In s.heap := I.ok.mod.kin.keeps I.bk
theorem Inv.lt (I : Inv X pins σ H s) : X.env.locals < s.heap.objs.size := let ⟨_, hn, _⟩ := I.loc; hn.lt
theorem Inv.sz (I : Inv X pins σ H s) : X.s₀.heap.objs.size ≤ s.heap.objs.size := Nat.le_trans I.ok.above (Nat.le_of_lt I.lt)
theorem Inv.nofs (I : Inv X pins σ H s) {a : Addr} (h : s.heap.objs.size ≤ a) : a ∉ X.fs := fun hb => by
  obtain ⟨_, o, ho, _⟩ := I.ok.funs.mem hb
  exact absurd (Nat.lt_of_lt_of_le (Heap.lt_size ho) (Nat.le_trans I.sz h)) (Nat.lt_irrefl _)
theorem Inv.cne (I : Inv X pins σ H s) : ∀ x c, X.env.cells.lookup x = some c → c ≠ X.env.locals := fun x c e z => by
  obtain ⟨v, o, ho, hd⟩ := I.cell x c e
  obtain ⟨m, ⟨o', es, ep, ho', hd', _⟩, _⟩ := I.loc
  rw [z, ho'] at ho; cases ho; rw [hd'] at hd; cases hd
theorem Inv.funs (I : Inv X pins σ H s) : s.heap.FunFrames X.base X.outer := by
  have all : ∀ (l : List Env), (∀ b ∈ frs l, b ∈ X.fs) → X.s₀.heap.FunFrames X.base l → s.heap.FunFrames X.base l := by
    intro l
    induction l with
    | nil => intro _ _; trivial
    | cons env r ih =>
      intro hs hl
      obtain ⟨hk, ⟨L, o, hf, hn, ho, hd⟩, hr⟩ := hl
      have hL : L ∈ X.fs := hs L (by unfold frs; rw [List.filterMap_cons, hf]; exact List.mem_cons_self)
      obtain ⟨sl, e⟩ := I.base.slot L o ho (I.ok.frf L hL) hL fun z => I.ok.exfs L z hL
      exact ⟨hk, ⟨L, _, hf, hn, e, hd⟩, ih (fun b hb => hs b (by unfold frs; rw [List.filterMap_cons, hf]; exact List.mem_cons_of_mem _ hb)) hr⟩
  exact all X.outer (fun _ hb => hb) I.ok.funs

theorem Inv.stack (I : Inv X pins σ H s) : s.heap.FunFrames X.base X.stack := by
  rcases I.ok.stk with e | ⟨e, hf⟩
  · rw [e]; exact I.funs
  · rw [e]
    obtain ⟨m, hn, _⟩ := I.loc
    refine .cons (by rw [I.ok.kind]; decide) hf hn ?_ I.funs
    exact Heap.get?_none_of_le (Nat.le_trans I.ok.bsz I.ok.above)
theorem Inv.stkSub (I : Inv X pins σ H s) : ∀ b ∈ frs X.stack, b ∈ X.env.locals :: X.fs := fun b hb => by
  rcases I.ok.stk with e | ⟨e, hf⟩
  · rw [e] at hb; exact List.mem_cons_of_mem _ hb
  · rw [e] at hb
    unfold frs at hb
    rw [List.filterMap_cons, hf] at hb
    exact hb
theorem Inv.stkFree (I : Inv X pins σ H s) : ∀ b ∈ frs X.stack, H b = none := fun b hb => by
  rcases List.mem_cons.mp (I.stkSub b hb) with e | hb
  · rw [e]; exact I.free
  · obtain ⟨_, o, ho, _⟩ := I.ok.funs.mem hb
    exact I.base.free b o ho (I.ok.frf b hb) fun z => I.ok.exfs b z hb

theorem Inv.step {g' : Array GenState} {t' : Nat} {d' : Drawn} {ch : List Addr} (I : Inv X pins σ H s)
    (hch : ∀ b ∈ ch, (b ∈ X.ex ∨ X.s₀.heap.objs.size ≤ b) ∧ b ≠ X.env.locals ∧ (∀ x c, X.env.cells.lookup x = some c → c ≠ b) ∧ ∀ p ∈ X.pn ++ pins, p.1 ≠ b)
    (keep : ∀ b o, b ≠ X.env.locals → b ∉ X.fs → b ∉ ch → s.heap.get? b = some o → H b = none → h'.get? b = some o)
    (slot : ∀ b o, b ≠ X.env.locals → b ∈ X.fs → b ∉ ch → s.heap.get? b = some o → H b = none → ∃ sl, h'.get? b = some { o with slots := sl }) (free : ∀ b o, b ∉ ch → s.heap.get? b = some o → H b = none → H' b = none)
    (there : ∀ b o, b ∉ ch → s.heap.get? b = some o → ∃ o', h'.get? b = some o')
    (tups : ∀ b xs, H b = some (.tup xs) → H' b = some (.tup xs)) (frzs : ∀ b o u, H b = some (.frz o u) → H' b = some (.frz o u)) (tbls : ∀ b ps, H b = some (.tbl ps) → ∃ more, H' b = some (.tbl (ps ++ more)))
    (ns : ∀ m, s.heap.Ns X.env.locals m → h'.Ns X.env.locals m) (hok : HOk X.prog X.w H' h') (hg : AllBare g') :
    Inv X pins σ H' { s with heap := h', gens := g', drawn := d', toks := t' } := by
  have neL : ∀ b o, X.s₀.heap.get? b = some o → b ≠ X.env.locals := fun b o e => Nat.ne_of_lt (Nat.lt_of_lt_of_le (Heap.lt_size e) I.ok.above)
  have neC : ∀ b o, X.s₀.heap.get? b = some o → b ∉ X.ex → b ∉ ch := fun b o e hx hb => by
    rcases (hch b hb).1 with z | z
    · exact hx z
    · exact absurd (Nat.lt_of_lt_of_le (Heap.lt_size e) z) (Nat.lt_irrefl _)
  have cellK : ∀ x c, X.env.cells.lookup x = some c → ∀ v, s.heap.IsCell c v → h'.IsCell c v := fun x c e v ⟨o, ho, hd⟩ => by
    have nch : c ∉ ch := fun z => (hch c z).2.2.1 x c e rfl
    by_cases hc : c ∈ X.fs
    · obtain ⟨sl, q⟩ := slot c o (I.cne x c e) hc nch ho (I.freeC x c e)
      exact ⟨_, q, hd⟩
    · exact ⟨o, keep c o (I.cne x c e) hc nch ho (I.freeC x c e), hd⟩
  refine ⟨I.ok, I.os, hg, ⟨fun b o e n hb hx => ?_, fun b o e n hb hx => ?_, fun b o e n hx => ?_, fun b o e hx => ?_, fun b xs e => tups b xs (I.base.tups b xs e), fun b o xs e => frzs b o xs (I.base.frzs b o xs e), fun b ps e => ?_⟩, ?_, fun x c e => ?_, ?_, fun x c e => ?_, fun p hp => ?_, hok, I.len⟩
  · exact keep b o (neL b o e) hb (neC b o e hx) (I.base.keep b o e n hb hx) (I.base.free b o e n hx)
  · obtain ⟨sl, e1⟩ := I.base.slot b o e n hb hx
    obtain ⟨sl', e2⟩ := slot b _ (neL b o e) hb (neC b o e hx) e1 (I.base.free b o e n hx)
    exact ⟨sl', e2⟩
  · obtain ⟨o', e1⟩ := I.base.there b o e hx
    exact free b o' (neC b o e hx) e1 (I.base.free b o e n hx)
  · obtain ⟨o', e1⟩ := I.base.there b o e hx
    exact there b o' (neC b o e hx) e1
  · obtain ⟨m1, e1⟩ := I.base.tbls b ps e
    obtain ⟨m2, e2⟩ := tbls b _ e1
    exact ⟨m1 ++ m2, by rw [e2, Array.append_assoc]⟩
  · obtain ⟨m, hn, hl⟩ := I.loc
    refine ⟨m, ns m hn, fun i x v e1 e2 e3 => ?_⟩
    obtain ⟨u, r, l⟩ := hl i x v e1 e2 e3
    refine ⟨u, r, ?_⟩
    rcases l with l | ⟨k, c, e, z⟩
    · exact .inl l
    · exact .inr ⟨k, c, e, cellK x c e _ z⟩
  · obtain ⟨v, z⟩ := I.cell x c e
    exact ⟨v, cellK x c e v z⟩
  · obtain ⟨m, ⟨o, _, _, ho, _⟩, _⟩ := I.loc
    exact free _ o (fun z => (hch _ z).2.1 rfl) ho I.free
  · obtain ⟨v, o, ho, hd⟩ := I.cell x c e
    exact free c o (fun z => (hch c z).2.2.1 x c e rfl) ho (I.freeC x c e)
  · obtain ⟨e, n, ne, nf, d⟩ := I.pin p hp
    have nch : p.1 ∉ ch := fun z => (hch p.1 z).2.2.2 p hp rfl
    exact ⟨keep p.1 p.2 ne nf nch e n, free p.1 p.2 nch e n, ne, nf, d⟩
theorem Inv.un {t' : Nat} (I : Inv X pins σ H s) (u : Un X.fs [] H H' s.heap h') (hok : HOk X.prog X.w H' h') : Inv X pins σ H' { s with heap := h', toks := t' } := by
  obtain ⟨m, ⟨o, es, ep, ho, r⟩, _⟩ := id I.loc
  obtain ⟨sl, hL⟩ := u.any ho I.free (by simp)
  exact I.step (g' := s.gens) (d' := s.drawn) (ch := []) (fun _ z => nomatch z) (fun b o _ hb _ e n => u.keep b o e n hb (by simp)) (fun b o _ hb _ e n => u.slot b o e n hb (by simp)) (fun b o _ e n => u.free b o e n (by simp)) (fun b o _ e => u.there b o e (by simp)) u.tups u.frzs u.tbls (fun m' hm => by
    obtain ⟨o', es', ep', ho', r'⟩ := hm
    rw [ho] at ho'; cases ho'
    exact ⟨_, es', ep', hL, r'⟩) hok I.bare
theorem Inv.call {g' : Array GenState} {t' : Nat} {d' : Drawn} {ch : List Addr} (I : Inv X pins σ H s) (u : Un (frs X.stack) ch H H' s.heap h') (hok : HOk X.prog X.w H' h') (hg : AllBare g')
    (hch : ∀ b ∈ ch, (b ∈ X.ex ∨ X.s₀.heap.objs.size ≤ b) ∧ b ≠ X.env.locals ∧ (∀ x c, X.env.cells.lookup x = some c → c ≠ b) ∧ ∀ p ∈ X.pn ++ pins, p.1 ≠ b) :
    Inv X pins σ H' { s with heap := h', gens := g', drawn := d', toks := t' } := by
  obtain ⟨m, ⟨o, es, ep, ho, r⟩, _⟩ := id I.loc
  obtain ⟨sl, hL⟩ := u.any ho I.free fun z => (hch _ z).2.1 rfl
  exact I.step (ch := ch) hch (fun b o hL hb hc e n => u.keep b o e n (fun z => (List.mem_cons.mp (I.stkSub b z)).elim hL hb) hc) (fun b o _ _ hc e n => u.any e n hc) (fun b o hc e n => u.free b o e n hc) (fun b o hc e => u.there b o e hc) u.tups u.frzs u.tbls (fun m' hm => by
    obtain ⟨o', es', ep', ho', r'⟩ := hm
    rw [ho] at ho'; cases ho'
    exact ⟨_, es', ep', hL, r'⟩) hok hg
theorem Inv.turned {t' : Nat} {it : Addr} (I : Inv X pins σ H s) (k : ∀ b o, b ≠ it → s.heap.get? b = some o → h'.get? b = some o) (hn : H it = none) (hL : it ≠ X.env.locals)
    (h1 : it ∈ X.ex ∨ X.s₀.heap.objs.size ≤ it) (h2 : ∀ x c, X.env.cells.lookup x = some c → c ≠ it) (h3 : ∀ p ∈ X.pn ++ pins, p.1 ≠ it) : Inv X pins σ H { s with heap := h', toks := t' } := by
  have nit : ∀ b u, H b = some u → b ≠ it := fun b u e z => by rw [z, hn] at e; cases e
  refine I.step (g' := s.gens) (d' := s.drawn) (ch := [it]) (fun b hb => ?_) (fun b o _ _ hc e _ => k b o (fun z => hc (by simp [z])) e) (fun b o _ _ hc e _ => ⟨o.slots, k b o (fun z => hc (by simp [z])) e⟩) (fun _ _ _ _ n => n)
    (fun b o hc e => ⟨o, k b o (fun z => hc (by simp [z])) e⟩) (fun _ _ e => e) (fun _ _ _ e => e) (fun b ps e => ⟨#[], by rw [e]; simp⟩) (fun m hm => ?_) (fun b u e => ?_) I.bare
  · have e : b = it := by simpa using hb
    subst e
    exact ⟨h1, hL, h2, h3⟩
  · obtain ⟨o, es, ep, ho, r⟩ := hm
    exact ⟨o, es, ep, k _ o (Ne.symm hL) ho, r⟩
  · refine (I.hok b u e).stay (fun c v hc q => k c v ?_ q) (fun _ q => q) fun _ _ q => q
    rcases hc with z | z
    · rw [z]; exact nit b u e
    · exact nit c _ z
theorem Inv.tok (I : Inv X pins σ H s) (t : Nat) : Inv X pins σ H { s with toks := t } := I.un (h' := s.heap) (t' := t) Un.refl I.hok
theorem Inv.kept {t' : Nat} (I : Inv X pins σ H s) (k : ∀ b u, s.heap.get? b = some u → h'.get? b = some u) : Inv X pins σ H { s with heap := h', toks := t' } := I.un (Un.kept k) (I.hok.kept k)
theorem Inv.laid {a : Addr} {o : HO} {t' : Nat} (I : Inv X pins σ H s) (k : ∀ b u, s.heap.get? b = some u → h'.get? b = some u) (hp : s.heap.objs.size ≤ a) (new : ObjOk X.prog X.w (upd H a o) h' a o) :
    Inv X pins σ (upd H a o) { s with heap := h', toks := t' } := I.un (Un.laid k hp (I.hok.fresh hp)) (I.hok.laid k hp new)
theorem Inv.write {x e : Addr} {o : HO} {t' : Nat} (I : Inv X pins σ H s) (mu : Mut (H x)) (he : e = x ∨ H e = some (.own x)) (k : ∀ b u, b ≠ e → s.heap.get? b = some u → h'.get? b = some u) (heo : ∃ u, h'.get? e = some u)
    (new : ObjOk X.prog X.w (upd H x o) h' x o) : Inv X pins σ (upd H x o) { s with heap := h', toks := t' } := I.un (Un.write mu he k heo) (I.hok.write mu he k heo new)
theorem Inv.pins_of {pins' : List (Addr × Obj)} (I : Inv X pins σ H s) (h : ∀ p ∈ pins', s.heap.get? p.1 = some p.2 ∧ H p.1 = none ∧ p.1 ≠ X.env.locals ∧ p.1 ∉ X.fs ∧ ∀ v, p.2.data ≠ .cell v) : Inv X pins' σ H s :=
  ⟨I.ok, I.os, I.bare, I.base, I.loc, I.cell, I.free, I.freeC, fun p hp => (List.mem_append.mp hp).elim (fun z => I.pin p (List.mem_append_left _ z)) (h p), I.hok, I.len⟩

theorem nodup_ix {N : List Str} (hN : N.Nodup) {i j : Nat} {x : Str} (a : N[i]? = some x) (b : N[j]? = some x) : i = j := by
  obtain ⟨h1, e1⟩ := List.getElem?_eq_some_iff.mp a
  obtain ⟨h2, e2⟩ := List.getElem?_eq_some_iff.mp b
  exact (List.getElem_inj hN).mp (e1.trans e2.symm)

theorem store_ok2 {M : Model} {A : Around} {E : Value → Shared → Prop} {i : Nat} {x : Str} {v : V} {u : Value} {Q : Unit → Shared → Prop} (I : Inv X pins σ H s) (hN : X.N.Nodup) (hi : X.N[i]? = some x) (hx : Loc X.env.scope x) (r : RelV v u)
    (h : ∀ s', Inv X pins (σ.set i (some v)) H s' → (∃ a, Heap.SameBut a s.heap s'.heap ∧ (a = X.env.locals ∨ X.env.cells.lookup x = some a)) → Q () s') (hf : X.fn x = true ∨ X.env.scope.names.lookup x = some .local := by first | exact .inl rfl | exact .inr rfl | assumption) : wpAny M A (storeName X.env x u) Q E s := by
  obtain ⟨m, hn, hl⟩ := id I.loc
  have hcls : (X.env.scope.kind == .class || (X.env.scope.kind == .module && X.env.locals != X.env.globals)) = false := by rw [I.ok.kind]; rfl
  have hiσ : i < σ.length := by rw [I.len]; exact (List.getElem?_eq_some_iff.mp hi).1
  have cne := I.cne
  have tracked : ∀ {a : Addr} {h' : Heap}, (∃ o, s.heap.get? a = some o ∧ H a = none) → Heap.SameBut a s.heap h' → HOk X.prog X.w H h' := fun {a h'} ha hs b ob e => by
    obtain ⟨_, _, hfree⟩ := ha
    refine (I.hok b ob e).stay (fun c w' hc q => (hs.2 c ?_).trans q) (fun _ q => q) fun _ _ q => q
    rintro rfl
    rcases hc with rfl | hc
    · rw [hfree] at e; cases e
    · rw [hfree] at hc; cases hc
  rcases hx with hk | hk
  · refine wpAny_storeName_local hk hn (fun h' hn' hs => ?_) hcls
    obtain ⟨oL, _, _, hoL, _⟩ := id hn
    refine h _ ⟨I.ok, I.os, I.bare, ⟨fun b o e n hb hx => ?_, fun b o e n hb hx => ?_, I.base.free, fun b o e hx => ?_, I.base.tups, I.base.frzs, I.base.tbls⟩, ⟨_, hn', fun j y v' e1 e2 e3 => ?_⟩, fun y c e => ?_, I.free, I.freeC, fun p hp => ?_, tracked ⟨oL, hoL, I.free⟩ hs, by simpa using I.len⟩ ⟨_, hs, .inl rfl⟩
    · exact (hs.2 b (Nat.ne_of_lt (Nat.lt_of_lt_of_le (Heap.lt_size e) I.ok.above))).trans (I.base.keep b o e n hb hx)
    · obtain ⟨sl, e1⟩ := I.base.slot b o e n hb hx
      exact ⟨sl, (hs.2 b (Nat.ne_of_lt (Nat.lt_of_lt_of_le (Heap.lt_size e) I.ok.above))).trans e1⟩
    · obtain ⟨o', e1⟩ := I.base.there b o e hx
      exact ⟨o', (hs.2 b (Nat.ne_of_lt (Nat.lt_of_lt_of_le (Heap.lt_size e) I.ok.above))).trans e1⟩
    · by_cases hj : j = i
      · subst hj
        rw [hi] at e1; cases e1
        rw [List.getElem?_set_self hiσ] at e2
        cases e2
        exact ⟨u, r, .inl ⟨hk, by simp⟩⟩
      · rw [List.getElem?_set_ne (Ne.symm hj)] at e2
        obtain ⟨u', r', q⟩ := hl j y v' e1 e2 e3
        refine ⟨u', r', ?_⟩
        rcases q with ⟨k, e⟩ | ⟨k, c, e, z⟩
        · refine .inl ⟨k, ?_⟩
          have : y ≠ x := fun e => hj (nodup_ix hN e1 (e ▸ hi))
          simp [this, e]
        · exact .inr ⟨k, c, e, z.sameBut hs (cne y c e)⟩
    · obtain ⟨w', z⟩ := I.cell y c e
      exact ⟨w', z.sameBut hs (cne y c e)⟩
    · obtain ⟨e, n, ne, nf, d⟩ := I.pin p hp
      exact ⟨(hs.2 p.1 ne).trans e, n, ne, nf, d⟩
  · have hfn : X.fn x = true := by
      rcases hf with z | z
      · exact z
      · rw [z] at hk; cases hk
    obtain ⟨c, hc⟩ := I.ok.has x (.inl hk)
    obtain ⟨w', z⟩ := I.cell x c hc
    refine wpAny_storeName_cell I.ok.kind hk hc z (fun h' hc' hs => ?_)
    obtain ⟨oc, hoc, hocd⟩ := id z
    refine h { s with heap := h' } ⟨I.ok, I.os, I.bare, ⟨fun b o e n hb hx => ?_, fun b o e n hb hx => ?_, I.base.free, fun b o e hx => ?_, I.base.tups, I.base.frzs, I.base.tbls⟩, ⟨m, hn.sameBut hs (Ne.symm (cne x c hc)), fun j y v' e1 e2 e3 => ?_⟩, fun y c' e => ?_, I.free, I.freeC, fun p hp => ?_, tracked ⟨oc, hoc, I.freeC x c hc⟩ hs, by simpa using I.len⟩ ⟨c, hs, .inr hc⟩
    · exact (hs.2 b (Nat.ne_of_lt (Nat.lt_of_lt_of_le (Heap.lt_size e) (I.ok.cab x c hfn hc)))).trans (I.base.keep b o e n hb hx)
    · obtain ⟨sl, e1⟩ := I.base.slot b o e n hb hx
      exact ⟨sl, (hs.2 b (Nat.ne_of_lt (Nat.lt_of_lt_of_le (Heap.lt_size e) (I.ok.cab x c hfn hc)))).trans e1⟩
    · obtain ⟨o', e1⟩ := I.base.there b o e hx
      exact ⟨o', (hs.2 b (Nat.ne_of_lt (Nat.lt_of_lt_of_le (Heap.lt_size e) (I.ok.cab x c hfn hc)))).trans e1⟩
    · by_cases hj : j = i
      · subst hj
        rw [hi] at e1; cases e1
        rw [List.getElem?_set_self hiσ] at e2
        cases e2
        exact ⟨u, r, .inr ⟨.inl hk, c, hc, hc'⟩⟩
      · rw [List.getElem?_set_ne (Ne.symm hj)] at e2
        obtain ⟨u', r', q⟩ := hl j y v' e1 e2 e3
        refine ⟨u', r', ?_⟩
        rcases q with q | ⟨k, c', e, z'⟩
        · exact .inl q
        · refine .inr ⟨k, c', e, z'.sameBut hs ?_⟩
          rintro rfl
          exact hj (nodup_ix hN e1 (I.ok.inj _ _ _ e hc ▸ hi))
    · by_cases hcc : c' = c
      · subst hcc; exact ⟨_, hc'⟩
      · obtain ⟨w2, z2⟩ := I.cell y c' e
        exact ⟨w2, z2.sameBut hs hcc⟩
    · obtain ⟨e, n, ne, nf, d⟩ := I.pin p hp
      refine ⟨(hs.2 p.1 ?_).trans e, n, ne, nf, d⟩
      intro q
      rw [q, hoc] at e
      have q' : oc = p.2 := Option.some.inj e
      exact d w' (by rw [← q']; exact hocd)
theorem store_ok {M : Model} {A : Around} {E : Value → Shared → Prop} {i : Nat} {x : Str} {v : V} {u : Value} {Q : Unit → Shared → Prop} (I : Inv X pins σ H s) (hN : X.N.Nodup) (hi : X.N[i]? = some x) (hx : Loc X.env.scope x) (r : RelV v u)
    (h : ∀ s', Inv X pins (σ.set i (some v)) H s' → Q () s') (hf : X.fn x = true ∨ X.env.scope.names.lookup x = some .local := by first | exact .inl rfl | exact .inr rfl | assumption) : wpAny M A (storeName X.env x u) Q E s :=
  store_ok2 I hN hi hx r (fun s' I' _ => h s' I') hf
theorem Inv.call' {s' : Shared} {ch : List Addr} (I : Inv X pins σ H s) (ho : s'.os = s.os) (u : Un (frs X.stack) ch H H' s.heap s'.heap) (hok : HOk X.prog X.w H' s'.heap) (hg : AllBare s'.gens)
    (hch : ∀ b ∈ ch, (b ∈ X.ex ∨ X.s₀.heap.objs.size ≤ b) ∧ b ≠ X.env.locals ∧ (∀ x c, X.env.cells.lookup x = some c → c ≠ b) ∧ ∀ p ∈ X.pn ++ pins, p.1 ≠ b) : Inv X pins σ H' s' := by
  obtain ⟨h', g', d', t', o'⟩ := s'
  have e : o' = s.os := ho
  subst e
  exact I.call (g' := g') (t' := t') (d' := d') u hok hg hch
end

/-! ### the judgements -/
abbrev XK := Value → Option Addr → Hp → Prop
abbrev St := List (Option V)
abbrev VK := V → Hp → Prop
abbrev TE := St → Hp → VK → Prop
abbrev TT := St → Hp → (Bool → Hp → Prop) → Prop
abbrev TA := St → Hp → (List V → Hp → Prop) → Prop
structure Ends where
  nx : St → Hp → Prop
  rt : VK
  bk : St → Hp → Prop := fun _ _ => False
  ct : St → Hp → Prop := fun _ _ => False
abbrev TS := Ends → St → Hp → Prop

def EP (X : Cx) (pins : List (Addr × Obj)) (σ : St) (Q : VK) (u : Value) (s' : Shared) : Prop := ∃ v H', Inv X pins σ H' s' ∧ RelV v u ∧ Q v H'
def TP (X : Cx) (pins : List (Addr × Obj)) (σ : St) (Q : Bool → Hp → Prop) (b : Bool) (s' : Shared) : Prop := ∃ H', Inv X pins σ H' s' ∧ Q b H'
def AP (X : Cx) (pins : List (Addr × Obj)) (σ : St) (Q : List V → Hp → Prop) (us : List Value) (s' : Shared) : Prop := ∃ vs H', Inv X pins σ H' s' ∧ Vals vs us ∧ Q vs H'
def SP (X : Cx) (pins : List (Addr × Obj)) (D : Ends) (f : Flow) (s' : Shared) : Prop :=
  match f with
  | .next => ∃ σ' H', Inv X pins σ' H' s' ∧ D.nx σ' H'
  | .brk => ∃ σ' H', Inv X pins σ' H' s' ∧ D.bk σ' H'
  | .cont => ∃ σ' H', Inv X pins σ' H' s' ∧ D.ct σ' H'
  | .ret u => ∃ v σ' H', Inv X pins σ' H' s' ∧ RelV v u ∧ D.rt v H'

def PE (X : Cx) (e : Expr) (t : TE) : Prop :=
  ∀ (pins : List (Addr × Obj)) (s : Shared) (σ : St) (H : Hp) (Q : VK), Inv X pins σ H s → t σ H Q → wpAny (model X.prog X.w) X.A (eval e X.env) (EP X pins σ Q) X.xe s
def PT (X : Cx) (e : Expr) (t : TT) : Prop :=
  ∀ (pins : List (Addr × Obj)) (s : Shared) (σ : St) (H : Hp) (Q : Bool → Hp → Prop), Inv X pins σ H s → t σ H Q → wpAny (model X.prog X.w) X.A (isTrue e X.env (eval e X.env)) (TP X pins σ Q) X.xe s
def PW (X : Cx) (e : Expr) (t : TT) : Prop :=
  ∀ (whole : Sem Value) (pins : List (Addr × Obj)) (s : Shared) (σ : St) (H : Hp) (Q : Bool → Hp → Prop), Inv X pins σ H s → t σ H Q → wpAny (model X.prog X.w) X.A (isTrue e X.env whole) (TP X pins σ Q) X.xe s
theorem PW.pt {X : Cx} {e : Expr} {t : TT} (h : PW X e t) : PT X e t := h _
def PA (X : Cx) (es : List Expr) (t : TA) : Prop :=
  ∀ (pos : Pos) (pins : List (Addr × Obj)) (s : Shared) (σ : St) (H : Hp) (Q : List V → Hp → Prop), Inv X pins σ H s → t σ H Q → wpAny (model X.prog X.w) X.A (spliced (backTo pos (starEach es X.env))) (AP X pins σ Q) X.xe s
def PS (X : Cx) (st : Stmt) (t : TS) : Prop :=
  ∀ (pins : List (Addr × Obj)) (s : Shared) (σ : St) (H : Hp) (D : Ends), Inv X pins σ H s → t D σ H → wpAny (model X.prog X.w) X.A (exec st X.env) (SP X pins D) X.xe s
def PSs (X : Cx) (st : List Stmt) (t : TS) : Prop :=
  ∀ (pins : List (Addr × Obj)) (s : Shared) (σ : St) (H : Hp) (D : Ends), Inv X pins σ H s → t D σ H → wpAny (model X.prog X.w) X.A (execs st X.env) (SP X pins D) X.xe s
theorem thn {α : Type} {t : Sem α} {Q Q' : α → Shared → Prop} {M : Model} {A : Around} {E : Value → Shared → Prop} {s : Shared} (h : wpAny M A t Q E s) (hQ : ∀ a s, Q a s → Q' a s) : wpAny M A t Q' E s := wpAny_mono h hQ fun _ _ x => x
end L2

namespace L2
open PySem PySem.Spec PyProof.Rows
section
variable {X : Cx}

/-! ### names and constants -/
def tVar (i : Nat) : TE := fun σ H Q => ∃ v, σ[i]? = some (some v) ∧ Q v H
def tC (v : V) : TE := fun _ H Q => Q v H
theorem pe_var {i : Nat} {x : Str} {pos : Pos} (hN : X.N[i]? = some x) (hv : Vis X.env.scope x) (hd : (x == ("__debug__" : Str)) = false := by decide) (hcd : (x == ("__classdict__" : Str)) = false := by decide) : PE X (.Name x pos) (tVar i) := by
  intro pins s σ H Q I h
  obtain ⟨v, e, h⟩ := h
  obtain ⟨m, hn, hl⟩ := I.loc
  obtain ⟨u, r, l⟩ := hl i x v hN e hv
  have fin : EP X pins σ Q u s := ⟨v, H, I, r, h⟩
  rcases l with ⟨hk, hm⟩ | ⟨hk, c, hc, hcell⟩
  · exact wpAny_Name (wpAny_loadName_local I.ok.kind hk hn hm fin) hd
  · rcases hk with hk | hk
    · exact wpAny_Name (wpAny_loadName_cell I.ok.kind hk hc hcell fin) hd
    · exact wpAny_Name (wpAny_loadName_free I.ok.kind hk hc hcell fin hcd) hd
theorem pe_int {i j pos} : PE X (.Constant (.int i) j pos) (tC (.int i)) := fun _ _ _ H _ I h => wpAny_Constant_int ⟨.int i, H, I.tok _, ⟨_, rfl⟩, h⟩
theorem pe_bl {b j pos} : PE X (.Constant (.bool b) j pos) (tC (.bl b)) := fun _ _ _ H _ I h => Constant_bool ⟨.bl b, H, I, rfl, h⟩
theorem pe_non {j pos} : PE X (.Constant .none j pos) (tC .non) := fun _ _ _ H _ I h => Constant_none ⟨.non, H, I, rfl, h⟩
theorem pe_str {x j pos} : PE X (.Constant (.str x) j pos) (tC (.str x)) := fun _ _ _ H _ I h => Calls.Constant_str ⟨.str x, H, I.tok _, ⟨_, rfl⟩, h⟩

def Gl (X : Cx) (x : Str) : Prop := X.env.kindOf x = some .globalImplicit
theorem ld_glob {E : Value → Shared → Prop} {pins : List (Addr × Obj)} {s : Shared} {σ : St} {H : Hp} {x : Str} {u : Value} {pos : Pos} {Q : Value → Shared → Prop} (I : Inv X pins σ H s) (hg : Gl X x) (hm : X.mg x = some u) (h : Q u s)
    (hd : (x == ("__debug__" : Str)) = false := by decide) : wpAny (model X.prog X.w) X.A (eval (.Name x pos) X.env) Q E s :=
  Calls.Name_function_global I.ok.kind hg (Calls.loadGlobal_global (by rw [I.ok.glob]; exact I.mod.glob.keeps I.bk) hm h) hd
theorem ld_blt {E : Value → Shared → Prop} {pins : List (Addr × Obj)} {s : Shared} {σ : St} {H : Hp} {x : Str} {u : Value} {pos : Pos} {Q : Value → Shared → Prop} (I : Inv X pins σ H s) (hg : Gl X x) (hm : X.mg x = none) (hv : bootBuiltins x = some u) (h : Q u s)
    (hn : x ≠ "__name__" := by decide) (hd : (x == ("__debug__" : Str)) = false := by decide) : wpAny (model X.prog X.w) X.A (eval (.Name x pos) X.env) Q E s := by
  obtain ⟨mb, h1, h2⟩ := I.mod.blt
  exact Calls.Name_function_global I.ok.kind hg (Calls.loadGlobal_builtin (by rw [I.ok.glob]; exact I.mod.glob.keeps I.bk) hm (by rw [I.ok.blt]; exact h1.keeps I.bk) ((h2 x hn).trans hv) h) hd
theorem pe_glob {x : Str} {v : V} {u : Value} {pos : Pos} (hg : Gl X x) (hm : X.mg x = some u) (r : RelV v u) (hd : (x == ("__debug__" : Str)) = false := by decide) : PE X (.Name x pos) (tC v) :=
  fun _ _ _ H _ I h => ld_glob I hg hm ⟨v, H, I, r, h⟩ hd
theorem pe_bltn {x : Str} {v : V} {u : Value} {pos : Pos} (hg : Gl X x) (hm : X.mg x = none) (hv : bootBuiltins x = some u) (r : RelV v u) (hn : x ≠ "__name__" := by decide) (hd : (x == ("__debug__" : Str)) = false := by decide) : PE X (.Name x pos) (tC v) :=
  fun _ _ _ H _ I h => ld_blt I hg hm hv ⟨v, H, I, r, h⟩ hn hd

/-! ### arithmetic -/
variable {a b : Expr} {ta tb : TE} {pos : Pos}
/-! ### comparisons -/
def PC (X : Cx) (op : CmpOp) (a b : Expr) (t : TE) : Prop :=
  ∀ (pins : List (Addr × Obj)) (s : Shared) (σ : St) (H : Hp) (Q : VK), Inv X pins σ H s → t σ H Q →
    wpAny (model X.prog X.w) X.A (eval a X.env) (fun v s₁ => wpAny (model X.prog X.w) X.A (eval b X.env) (fun u s₂ => wpAny (model X.prog X.w) X.A (compareOp op v u) (EP X pins σ Q) X.xe s₂) X.xe s₁) X.xe s
def tB (t : TE) : TT := fun σ H Q => t σ H fun x H1 => ∃ c, x = .bl c ∧ Q c H1
theorem pt_val {e : Expr} {t : TE} (h : PE X e t) (he : ∀ whole, isTrue e X.env whole = (do let v ← whole; standAt e.pos; holding [v] (truthy v)) := by intro _; rfl) : PT X e (tB t) := by
  intro pins s σ H Q I hw
  refine isTrue_plain (thn (h pins s σ H _ I hw) fun v s1 ⟨x, H1, I1, r1, q1⟩ => ?_) (he _)
  obtain ⟨d, rfl, q⟩ := q1
  cases r1
  exact wpAny_truthy_bool ⟨H1, I1, q⟩

/-! ### and, or, not -/
variable {tA tB' : TT} {rest : List Expr}
def tAnd (t u : TT) : TT := fun σ H Q => t σ H fun c H1 => if c = true then u σ H1 Q else Q false H1
def tOr (t u : TT) : TT := fun σ H Q => t σ H fun c H1 => if c = true then Q true H1 else u σ H1 Q
def tNot (t : TT) : TT := fun σ H Q => t σ H fun c H1 => Q (!c) H1
theorem pw_and1 (ha : PT X a tA) : PW X (.BoolOp .And [a] pos) tA := by
  intro wh pins s σ H Q I h
  refine isTrue_and (thn (ha pins s σ H Q I h) fun c s1 e => ?_)
  cases c with
  | true => exact isTrue_and_nil e
  | false => exact e
theorem pw_or1 (ha : PT X a tA) : PW X (.BoolOp .Or [a] pos) tA := by
  intro wh pins s σ H Q I h
  refine isTrue_or (thn (ha pins s σ H Q I h) fun c s1 e => ?_)
  cases c with
  | false => exact isTrue_or_nil e
  | true => exact e
theorem pw_and (ha : PT X a tA) (hb : PW X (.BoolOp .And (b :: rest) pos) tB') : PW X (.BoolOp .And (a :: b :: rest) pos) (tAnd tA tB') := by
  intro wh pins s σ H Q I h
  refine isTrue_and (thn (ha pins s σ H _ I h) fun c s1 ⟨H1, I1, q1⟩ => ?_)
  cases c with
  | true => exact hb wh pins s1 σ H1 Q I1 q1
  | false => exact ⟨H1, I1, q1⟩
theorem pw_or (ha : PT X a tA) (hb : PW X (.BoolOp .Or (b :: rest) pos) tB') : PW X (.BoolOp .Or (a :: b :: rest) pos) (tOr tA tB') := by
  intro wh pins s σ H Q I h
  refine isTrue_or (thn (ha pins s σ H _ I h) fun c s1 ⟨H1, I1, q1⟩ => ?_)
  cases c with
  | true => exact ⟨H1, I1, q1⟩
  | false => exact hb wh pins s1 σ H1 Q I1 q1
theorem pt_not (ha : PT X a tA) : PT X (.UnaryOp .Not a pos) (tNot tA) := by
  intro pins s σ H Q I h
  exact isTrue_not (ha pins s σ H (fun c H1 => Q (!c) H1) I h)
def tAndV (ta tb : TE) : TE := fun σ H Q => ta σ H fun x H1 => ∃ c, x = .bl c ∧ if c = true then tb σ H1 Q else Q (.bl false) H1
def tOrV (ta tb : TE) : TE := fun σ H Q => ta σ H fun x H1 => ∃ c, x = .bl c ∧ if c = true then Q (.bl true) H1 else tb σ H1 Q
def tNotV (ta : TE) : TE := fun σ H Q => ta σ H fun x H1 => ∃ c, x = .bl c ∧ Q (.bl (!c)) H1
theorem pe_one {op} {t : TE} (h : PE X a t) : PE X (.BoolOp op [a] pos) t := fun pins s σ H Q I hw => BoolOp_one (h pins s σ H Q I hw)
theorem pe_and (ha : PE X a ta) (hb : PE X (.BoolOp .And (b :: rest) pos) tb) : PE X (.BoolOp .And (a :: b :: rest) pos) (tAndV ta tb) := by
  intro pins s σ H Q I h
  refine BoolOp_and (thn (ha pins s σ H _ I h) fun v s1 ⟨x, H1, I1, r1, q1⟩ => ?_)
  obtain ⟨c, rfl, q1⟩ := q1
  cases r1
  refine wpAny_truthy_bool ?_
  cases c with
  | true => exact hb pins s1 σ H1 Q I1 q1
  | false => exact ⟨.bl false, H1, I1, rfl, q1⟩
theorem pe_or (ha : PE X a ta) (hb : PE X (.BoolOp .Or (b :: rest) pos) tb) : PE X (.BoolOp .Or (a :: b :: rest) pos) (tOrV ta tb) := by
  intro pins s σ H Q I h
  refine BoolOp_or (thn (ha pins s σ H _ I h) fun v s1 ⟨x, H1, I1, r1, q1⟩ => ?_)
  obtain ⟨c, rfl, q1⟩ := q1
  cases r1
  refine wpAny_truthy_bool ?_
  cases c with
  | false => exact hb pins s1 σ H1 Q I1 q1
  | true => exact ⟨.bl true, H1, I1, rfl, q1⟩
theorem pe_not (ha : PE X a ta) : PE X (.UnaryOp .Not a pos) (tNotV ta) := by
  intro pins s σ H Q I h
  refine UnaryOp_ (thn (ha pins s σ H _ I h) fun v s1 ⟨x, H1, I1, r1, q1⟩ => ?_)
  obtain ⟨c, rfl, q1⟩ := q1
  cases r1
  exact not_of (wpAny_truthy_bool ⟨.bl (!c), H1, I1, rfl, q1⟩)
def tIf (t : TT) (ta tb : TE) : TE := fun σ H Q => t σ H fun c H1 => if c = true then ta σ H1 Q else tb σ H1 Q
theorem pe_ifExp {c : Expr} (hc : PT X c tA) (ha : PE X a ta) (hb : PE X b tb) : PE X (.IfExp c a b pos) (tIf tA ta tb) := by
  intro pins s σ H Q I h
  refine wpAny_IfExp (thn (hc pins s σ H _ I h) fun d s1 ⟨H1, I1, q1⟩ => ?_)
  cases d with
  | true => exact ha pins s1 σ H1 Q I1 q1
  | false => exact hb pins s1 σ H1 Q I1 q1
end
end L2

namespace L2
open PySem PySem.Spec PyProof.Rows

/-! ### a list, a tuple that is read: tracked, frozen, or an object of the module -/
def SqL (K : PySem.W.Frag) (H : Hp) (a : Addr) (xs : List V) : Prop :=
  Rd H a (.lst xs) ∨
    ∃ (o : Obj) (its : Array Value) (n : Nat), K.lookup a = some o ∧ o.cls = .type "list" ∧ o.dict = none ∧ o.data = .seq its n ∧ its.size ≤ sizeLine ∧ Vals xs its.toList
def SqT (K : PySem.W.Frag) (H : Hp) (a : Addr) (xs : List V) : Prop :=
  Rd H a (.tup xs) ∨
    ∃ (o : Obj) (its : Array Value) (n : Nat), K.lookup a = some o ∧ o.cls = .type "tuple" ∧ o.data = .seq its n ∧ its.size ≤ sizeLine ∧ Vals xs its.toList
def absV : Value → Option V
  | .none => some .non
  | .bool b => some (.bl b)
  | .int i _ => some (.int i)
  | .str x _ => some (.str x)
  | .bytes b _ => some (.byt b)
  | .float b _ => some (.flt b)
  | .ref a => some (.ref a)
  | .type n => some (.ty n)
  | _ => none
theorem RelV.abs {x : V} {u : Value} (r : RelV x u) : absV u = some x := by
  cases x with
  | non => cases r; rfl
  | bl _ => cases r; rfl
  | int _ => obtain ⟨t, rfl⟩ := r; rfl
  | str _ => obtain ⟨t, rfl⟩ := r; rfl
  | byt _ => obtain ⟨t, rfl⟩ := r; rfl
  | flt _ => obtain ⟨t, rfl⟩ := r; rfl
  | ref _ => cases r; rfl
  | ty _ => cases r; rfl
theorem RelV.inj {x y : V} {u : Value} (r : RelV x u) (q : RelV y u) : x = y := Option.some.inj (r.abs.symm.trans q.abs)
theorem Vals.inj : ∀ {xs ys : List V} {us : List Value}, Vals xs us → Vals ys us → xs = ys
  | _, _, _, .nil, .nil => rfl
  | _, _, _, .cons r t, .cons r' t' => by rw [r.inj r', Vals.inj t t']
section
variable {X : Cx} {pins : List (Addr × Obj)} {σ : St} {H : Hp} {s : Shared} {a : Addr} {xs ys : List V}
theorem SqL.of {K : PySem.W.Frag} (h : H a = some (.lst xs)) : SqL K H a xs := .inl (.inl h)
theorem SqT.of {K : PySem.W.Frag} (h : H a = some (.tup xs)) : SqT K H a xs := .inl (.inl h)
theorem Inv.list (I : Inv X pins σ H s) (h : SqL X.K H a xs) : ∃ its : List Value, Vals xs its ∧ PlainL s.heap a its.toArray ∧ xs.length ≤ sizeLine := by
  rcases h with h | ⟨o, its, n, hk, hc, hd, hs, hz, r⟩
  · obtain ⟨z, its, n, r, e⟩ := h.ok I.hok
    exact ⟨its, r, ⟨_, n, e, rfl, rfl, rfl⟩, z⟩
  · refine ⟨its.toList, r, ⟨o, n, I.kIn a o hk, hc, hd, by simpa using hs⟩, ?_⟩
    have e := r.length
    simp only [Array.length_toList] at e
    omega
theorem Inv.tuple (I : Inv X pins σ H s) (h : SqT X.K H a xs) : ∃ its : List Value, Vals xs its ∧ IsTup s.heap a its.toArray ∧ xs.length ≤ sizeLine := by
  rcases h with h | ⟨o, its, n, hk, hc, hs, hz, r⟩
  · obtain ⟨z, its, r, p⟩ := h.ok I.hok
    exact ⟨its, r, p, z⟩
  · refine ⟨its.toList, r, ⟨o, I.kIn a o hk, hc, n, by simpa using hs⟩, ?_⟩
    have e := r.length
    simp only [Array.length_toList] at e
    omega
theorem Inv.list_inj (I : Inv X pins σ H s) (h : SqL X.K H a xs) (h' : SqL X.K H a ys) : xs = ys := by
  obtain ⟨its, r, ⟨o, n, e, _, _, d⟩, _⟩ := I.list h
  obtain ⟨its', r', ⟨o', n', e', _, _, d'⟩, _⟩ := I.list h'
  rw [e] at e'; cases e'
  rw [d] at d'
  injection d' with d1 _
  have : its = its' := by simpa using congrArg Array.toList d1
  subst this
  exact r.inj r'
theorem Inv.tuple_inj (I : Inv X pins σ H s) (h : SqT X.K H a xs) (h' : SqT X.K H a ys) : xs = ys := by
  obtain ⟨its, r, ⟨o, e, _, n, d⟩, _⟩ := I.tuple h
  obtain ⟨its', r', ⟨o', e', _, n', d'⟩, _⟩ := I.tuple h'
  rw [e] at e'; cases e'
  rw [d] at d'
  injection d' with d1 _
  have : its = its' := by simpa using congrArg Array.toList d1
  subst this
  exact r.inj r'
end

/-! ### another wish about exceptions -/
abbrev Cx.wish (X : Cx) (E : Value → Shared → Prop) : Cx := { X with xe := E }
abbrev Cx.nox (X : Cx) : Cx := X.wish fun _ _ => False
theorem Cx.Ok.wish {X : Cx} (ok : X.Ok) (E : Value → Shared → Prop) : (X.wish E).Ok :=
  ⟨ok.mod, ok.kind, ok.glob, ok.blt, ok.above, ok.inj, ok.has, ok.cab, ok.hd, ok.frames, ok.stk, ok.exf, ok.bs, ok.bsz, ok.noex, ok.exfs, ok.funs, ok.frf⟩
theorem Cx.Ok.unwish {X : Cx} {E : Value → Shared → Prop} (ok : (X.wish E).Ok) : X.Ok :=
  ⟨ok.mod, ok.kind, ok.glob, ok.blt, ok.above, ok.inj, ok.has, ok.cab, ok.hd, ok.frames, ok.stk, ok.exf, ok.bs, ok.bsz, ok.noex, ok.exfs, ok.funs, ok.frf⟩
section
variable {X : Cx} {pins : List (Addr × Obj)} {σ : St} {H : Hp} {s : Shared} {E : Value → Shared → Prop}
theorem Inv.wish (I : Inv X pins σ H s) (E : Value → Shared → Prop) : Inv (X.wish E) pins σ H s := ⟨I.ok.wish E, I.os, I.bare, I.base, I.loc, I.cell, I.free, I.freeC, I.pin, I.hok, I.len⟩
theorem Inv.unwish (I : Inv (X.wish E) pins σ H s) : Inv X pins σ H s := ⟨I.ok.unwish, I.os, I.bare, I.base, I.loc, I.cell, I.free, I.freeC, I.pin, I.hok, I.len⟩
theorem SP.unwish {D : Ends} {f : Flow} {s' : Shared} (h : SP (X.wish E) pins D f s') : SP X pins D f s' := by
  cases f with
  | next => obtain ⟨σ', H', I, q⟩ := h; exact ⟨σ', H', I.unwish, q⟩
  | brk => obtain ⟨σ', H', I, q⟩ := h; exact ⟨σ', H', I.unwish, q⟩
  | cont => obtain ⟨σ', H', I, q⟩ := h; exact ⟨σ', H', I.unwish, q⟩
  | ret u => obtain ⟨v, σ', H', I, r, q⟩ := h; exact ⟨v, σ', H', I.unwish, r, q⟩
theorem PSs.nox {st : List Stmt} {t : TS} (h : PSs X.nox st t) : PSs X st t := fun pins s σ H D I hw =>
  wpAny_mono (h pins s σ H D (I.wish _) hw) (fun _ _ q => q.unwish) fun _ _ z => False.elim z
end

/-! ### blocks and small statements -/
section
variable {X : Cx} {st : Stmt} {rest : List Stmt} {t u : TS} {e : Expr} {te : TE} {pos : Pos}
def tNext : TS := fun D σ H => D.nx σ H
def tSeq (t u : TS) : TS := fun D σ H => t { D with nx := u D } σ H
theorem pss_nil : PSs X [] tNext := fun _ _ σ H _ I h => wpAny_execs_nil ⟨σ, H, I, h⟩
theorem pss_cons (h1 : PS X st t) (h2 : PSs X rest u) : PSs X (st :: rest) (tSeq t u) := by
  intro pins s σ H D I h
  refine wpAny_execs_cons (thn (h1 pins s σ H { D with nx := u D } I h) fun f s1 q => ?_)
  cases f with
  | next =>
    obtain ⟨σ', H', I', q⟩ := q
    exact h2 pins s1 σ' H' D I' q
  | ret v => exact q
  | brk => exact q
  | cont => exact q
theorem pss_one (h1 : PS X st t) : PSs X [st] t := by
  intro pins s σ H D I h
  refine wpAny_execs_cons (thn (h1 pins s σ H D I h) fun f s1 q => ?_)
  cases f with
  | next => exact wpAny_execs_nil q
  | ret v => exact q
  | brk => exact q
  | cont => exact q
theorem Inv.quiet {pins : List (Addr × Obj)} {σ : St} {H : Hp} {s : Shared} (I : Inv X pins σ H s) : interactive X.env = false := by simp [interactive, I.ok.kind]
def tDrop (te : TE) : TS := fun D σ H => te σ H fun _ H1 => D.nx σ H1
theorem ps_expr (he : PE X e te) (hs : swapsWith e none pos.line X.env = pure false := by rfl) : PS X (.Expr e pos) (tDrop te) := by
  intro pins s σ H D I h
  exact wpAny_Expr_any (thn (he pins s σ H _ I h) fun v s1 ⟨x, H1, I1, r1, q1⟩ => ⟨σ, H1, I1, q1⟩) I.quiet hs
def tRet (te : TE) : TS := fun D σ H => te σ H D.rt
theorem ps_ret (he : PE X e te) : PS X (.Return (some e) pos) (tRet te) := by
  intro pins s σ H D I h
  exact wpAny_Return_some (thn (he pins s σ H _ I h) fun v s1 ⟨x, H1, I1, r1, q1⟩ => ⟨x, σ, H1, I1, r1, q1⟩)
def tIfS (c : TT) (t u : TS) : TS := fun D σ H => c σ H fun b H1 => if b = true then t D σ H1 else u D σ H1
theorem ps_if {c : Expr} {a b : List Stmt} {tc : TT} (hc : PT X c tc) (ha : PSs X a t) (hb : PSs X b u) : PS X (.If c a b pos) (tIfS tc t u) := by
  intro pins s σ H D I h
  refine wpAny_If (thn (hc pins s σ H _ I h) fun d s1 ⟨H1, I1, q1⟩ => ?_)
  cases d with
  | true => exact ha pins s1 σ H1 D I1 q1
  | false => exact hb pins s1 σ H1 D I1 q1
end

/-! ### targets -/
abbrev TG := V → St → Hp → (St → Hp → Prop) → Prop
abbrev TGs := List V → St → Hp → (St → Hp → Prop) → Prop
def PG (X : Cx) (target : Expr) (t : TG) : Prop :=
  ∀ (pins : List (Addr × Obj)) (s : Shared) (σ : St) (H : Hp) (v : V) (u : Value) (Q : St → Hp → Prop), Inv X pins σ H s → RelV v u → t v σ H Q →
    wpAny (model X.prog X.w) X.A (assign target X.env u) (fun _ s' => ∃ σ' H', Inv X pins σ' H' s' ∧ Q σ' H') X.xe s
def PGs (X : Cx) (ts : List Expr) (t : TGs) : Prop :=
  ∀ (pins : List (Addr × Obj)) (s : Shared) (σ : St) (H : Hp) (vs : List V) (us : List Value) (Q : St → Hp → Prop), Inv X pins σ H s → Vals vs us → t vs σ H Q →
    wpAny (model X.prog X.w) X.A (assignInOrder ((assignEach ts X.env).map (·.2)) us) (fun _ s' => ∃ σ' H', Inv X pins σ' H' s' ∧ Q σ' H') X.xe s
abbrev TSet := V → V → V → Hp → (Hp → Prop) → Prop
def PSet (X : Cx) (t : TSet) : Prop :=
  ∀ (pins : List (Addr × Obj)) (s : Shared) (σ : St) (H : Hp) (o i v : V) (ov iv u : Value) (Q : Hp → Prop), Inv X pins σ H s → RelV o ov → RelV i iv → RelV v u → t o i v H Q →
    wpAny (model X.prog X.w) X.A (setItem ov iv u) (fun _ s' => ∃ H', Inv X pins σ H' s' ∧ Q H') X.xe s
section
variable {X : Cx} {pos : Pos}
def gName (i : Nat) : TG := fun v σ H Q => Q (σ.set i (some v)) H
theorem pg_name {i : Nat} {x : Str} (hN : X.N.Nodup) (hi : X.N[i]? = some x) (hx : Loc X.env.scope x) (hf : X.fn x = true ∨ X.env.scope.names.lookup x = some .local := by first | exact .inl rfl | exact .inr rfl | assumption) : PG X (.Name x pos) (gName i) := by
  intro pins s σ H v u Q I r h
  exact wpAny_assign_Name (store_ok I hN hi hx r (fun s' I' => ⟨_, H, I', h⟩) hf)
def gNil : TGs := fun vs σ H Q => vs = [] ∧ Q σ H
def gCons (t : TG) (u : TGs) : TGs := fun vs σ H Q => ∃ v r, vs = v :: r ∧ t v σ H fun σ' H' => u r σ' H' Q
theorem pgs_nil : PGs X [] gNil := by
  intro pins s σ H vs us Q I r h
  obtain ⟨e, h⟩ := h
  subst e
  cases r
  exact assignInOrder_nil ⟨σ, H, I, h⟩
theorem pgs_cons {e : Expr} {es : List Expr} {t : TG} {u : TGs} (h1 : PG X e t) (h2 : PGs X es u)
    (hs : (assignEach (e :: es) X.env).map (·.2) = assign e X.env :: (assignEach es X.env).map (·.2) := by rfl) : PGs X (e :: es) (gCons t u) := by
  intro pins s σ H vs us Q I r h
  obtain ⟨v, vr, e1, h⟩ := h
  subst e1
  cases r with
  | cons r rr =>
    rw [hs]
    refine assignInOrder_cons (thn (h1 pins s σ H _ _ _ I r h) fun _ s1 ⟨σ1, H1, I1, q1⟩ => ?_)
    exact h2 pins s1 σ1 H1 _ _ Q I1 rr q1
def gTup (K : PySem.W.Frag) (n : Nat) (t : TGs) : TG := fun v σ H Q => ∃ a xs, v = .ref a ∧ SqT K H a xs ∧ xs.length = n ∧ t xs σ H Q
theorem pg_tup {es : List Expr} {k : Nat} {t : TGs} {n : Nat} (hc : X.calm = true) (h : PGs X es t)
    (hn : (assignEach es X.env).length = n := by rfl) (hst : (assignEach es X.env).findIdx? (·.1) = none := by rfl) : PG X (.Tuple es k pos) (gTup X.K n t) := by
  intro pins s σ H v u Q I r hw
  obtain ⟨a, xs, e1, hq, hl, hw⟩ := hw
  subst e1
  cases r
  obtain ⟨its, rv, ht, hz⟩ := I.tuple hq
  refine assign_Tuple_tuple (I.ok.hd hc) ht (by simp [hn, ← hl, rv.length]) hst fun h' hx => ?_
  have I1 : Inv X pins σ H { s with heap := h' } := I.kept (t' := s.toks) fun b o e => hx b o (Nat.ne_of_lt (Heap.lt_size e)) e
  exact h pins _ σ H xs _ Q I1 (by simpa using rv) hw
def gSub (to ti : TE) (t : TSet) : TG := fun v σ H Q => to σ H fun o H1 => ti σ H1 fun i H2 => t o i v H2 fun H3 => Q σ H3
theorem pg_sub {o i : Expr} {to ti : TE} {t : TSet} (ho : PE X o to) (hi : PE X i ti) (hs : PSet X t)
    (ha : ∀ v, assign (.Subscript o i pos) X.env v = (do
      let ov ← holding [v] (eval o X.env)
      let iv ← holding [v, ov] (eval i X.env)
      standAt pos
      holding [v, ov, iv] (setItem ov iv v)
      release [v, ov, iv] []) := by intro _; rfl) : PG X (.Subscript o i pos) (gSub to ti t) := by
  intro pins s σ H v u Q I r h
  rw [ha]
  refine wpAny_bind (wpAny_holding (thn (ho pins s σ H _ I h) fun ov s1 ⟨x, H1, I1, r1, q1⟩ => ?_))
  refine wpAny_bind (wpAny_holding (thn (hi pins s1 σ H1 _ I1 q1) fun iv s2 ⟨y, H2, I2, r2, q2⟩ => ?_))
  refine wpAny_bind (wpAny_standAt (wpAny_bind (wpAny_holding (thn (hs pins s2 σ H2 x y v ov iv u _ I2 r1 r2 r q2) fun _ s3 ⟨H3, I3, q3⟩ => ?_))))
  exact wpAny_release ⟨σ, H3, I3, q3⟩
def tAsg (te : TE) (g : TG) : TS := fun D σ H => te σ H fun x H1 => g x σ H1 D.nx
theorem ps_asg {tg e : Expr} {te : TE} {g : TG} (he : PE X e te) (hg : PG X tg g) (hs : swapsWithSole [tg] e pos.line X.env = pure false := by rfl) (hw : swappedStores [tg] e X.env = pure none := by rfl)
    (h1 : (assignEach [tg] X.env).map (·.2) = [assign tg X.env] := by rfl) : PS X (.Assign [tg] e pos) (tAsg te g) := by
  intro pins s σ H D I h
  refine wpAny_Assign_stores (thn (he pins s σ H _ I h) fun v s1 ⟨x, H1, I1, r1, q1⟩ => ?_) hs hw
  rw [h1]
  exact thn (hg pins s1 σ H1 x v _ I1 r1 q1) fun _ s2 q => q
theorem ps_set {i : Nat} {x : Str} {e : Expr} {te : TE} {pos' : Pos} (hN : X.N.Nodup) (hi : X.N[i]? = some x) (hx : Loc X.env.scope x) (he : PE X e te) (hs : swapsWith e (some (.Name x pos')) pos.line X.env = pure false := by rfl) (hf : X.fn x = true ∨ X.env.scope.names.lookup x = some .local := by first | exact .inl rfl | exact .inr rfl | assumption) :
    PS X (.Assign [.Name x pos'] e pos) (tAsg te (gName i)) := by
  intro pins s σ H D I h
  refine wpAny_Assign_Name (thn (he pins s σ H _ I h) fun v s1 ⟨y, H1, I1, r1, q1⟩ => ?_) hs
  exact store_ok I1 hN hi hx r1 (fun s2 I2 => ⟨_, H1, I2, q1⟩) hf
end

/-! ### while -/
section
variable {X : Cx} {pos : Pos}
end

/-! ### what a loop or a comprehension walks -/
structure It where
  go : Nat → Hp → Prop
  yld : Nat → Hp → V → Hp → Prop
  stop : Nat → Hp → Prop
def FpOk (X : Cx) (pins : List (Addr × Obj)) (H : Hp) (b : Addr) : Prop :=
  H b = none ∧ b ≠ X.env.locals ∧ b ∉ X.fs ∧ (b ∈ X.ex ∨ X.s₀.heap.objs.size ≤ b) ∧ (∀ x c, X.env.cells.lookup x = some c → c ≠ b) ∧ ∀ p ∈ X.pn ++ pins, p.1 ≠ b
theorem Inv.fpOk {X : Cx} {pins : List (Addr × Obj)} {σ : St} {H H' : Hp} {s : Shared} {b : Addr} (I : Inv X pins σ H s) (hb : s.heap.objs.size ≤ b) (hn : H' b = none) : FpOk X pins H' b := by
  refine ⟨hn, Nat.ne_of_gt (Nat.lt_of_lt_of_le I.lt hb), I.nofs hb, .inr (Nat.le_trans I.sz hb), fun x c e z => ?_, fun p hp z => ?_⟩
  · obtain ⟨v, q⟩ := I.cell x c e
    exact absurd (Nat.lt_of_lt_of_le q.lt (by rw [z]; exact hb)) (Nat.lt_irrefl _)
  · exact absurd (Nat.lt_of_lt_of_le (Heap.lt_size (I.pin p hp).1) (by rw [z]; exact hb)) (Nat.lt_irrefl _)
structure Turn (P : Program) (w : World) (K : PySem.W.Frag) (tg : Expr) (J : It) (fp : List Addr) (it : Addr) (tn : Nat → Heap → Prop) : Prop where
  mem : it ∈ fp
  obj : ∀ i h, tn i h → ∀ b ∈ fp, ∃ o, h.get? b = some o ∧ ∀ v, o.data ≠ .cell v
  keep : ∀ i h h', tn i h → (∀ b ∈ fp, ∀ o, h.get? b = some o → h'.get? b = some o) → tn i h'
  item : ∀ (X : Cx), X.prog = P → X.w = w → X.K = K → X.calm = true → ∀ (i : Nat) (pins : List (Addr × Obj)) (s : Shared) (σ : St) (H : Hp) (E : Value → Shared → Prop), Inv X pins σ H s → (∀ b ∈ fp, FpOk X pins H b) → tn i s.heap → J.go i H →
    wpAny (model P w) X.A (pyNext (.ref it)) (fun r s1 => ∃ u, r = some u ∧
      wpAny (model P w) X.A (letOwnedTupleGo tg (.ref it) u) (fun _ s2 => ∃ x H', Inv X pins σ H' s2 ∧ RelV x u ∧ J.yld i H x H' ∧ tn (i + 1) s2.heap ∧ ∀ b ∈ fp, H' b = none) E s1) E s
  done : ∀ (X : Cx), X.prog = P → X.w = w → X.K = K → X.calm = true → ∀ (i : Nat) (pins : List (Addr × Obj)) (s : Shared) (σ : St) (H : Hp) (E : Value → Shared → Prop), Inv X pins σ H s → (∀ b ∈ fp, FpOk X pins H b) → tn i s.heap → J.stop i H →
    wpAny (model P w) X.A (pyNext (.ref it)) (fun r s1 => r = none ∧ Inv X pins σ H s1) E s
  self : ∀ (A : Around) (i : Nat) (s : Shared) (Q : Value → Shared → Prop) (E : Value → Shared → Prop), tn i s.heap → Q (.ref it) s → wpAny (model P w) A (pyIter (.ref it)) Q E s
abbrev TI := St → Hp → (It → Hp → Prop) → Prop
def PIE (X : Cx) (pins : List (Addr × Obj)) (σ : St) (tg : Expr) (R : It → Hp → Prop) (itv : Value) (s2 : Shared) : Prop :=
  ∃ (it : Addr) (fp : List Addr) (tn : Nat → Heap → Prop) (J : It) (H' : Hp), itv = .ref it ∧ Inv X pins σ H' s2 ∧ Turn X.prog X.w X.K tg J fp it tn ∧ tn 0 s2.heap ∧ (∀ b ∈ fp, FpOk X pins H' b) ∧ R J H'
def PI (X : Cx) (tg iter : Expr) (wi : TI) : Prop :=
  ∀ (pins : List (Addr × Obj)) (s : Shared) (σ : St) (H : Hp) (R : It → Hp → Prop), Inv X pins σ H s → wi σ H R →
    wpAny (model X.prog X.w) X.A (eval iter X.env) (fun v s1 => wpAny (model X.prog X.w) X.A (pyIter v) (PIE X pins σ tg R) X.xe s1) X.xe s

theorem go_of {M : Model} {A : Around} {E : Value → Shared → Prop} {s : Shared} {tg : Expr} {it : Addr} {u : Value} {o : Obj} {n : String} {vs : Array Value} {Q : Unit → Shared → Prop} (ho : s.heap.get? it = some o) (hc : o.cls = .type n) (hd : o.data = .fields vs)
    (hn : ["enumerate", "zip", "dict_itemiterator", "dict_reverseitemiterator", "odict_iterator", "itertools.zip_longest", "itertools.pairwise"].contains n = false) (hQ : Q () s) : wpAny M A (letOwnedTupleGo tg (.ref it) u) Q E s := by
  unfold letOwnedTupleGo
  cases tg <;> first
    | exact wpAny_pure hQ
    | (cases u <;> first
        | exact wpAny_pure hQ
        | (refine wpAny_bind (wpAny_load ho ?_)
           rw [hc, hd]
           show wpAny M A (if (["enumerate", "zip", "dict_itemiterator", "dict_reverseitemiterator", "odict_iterator", "itertools.zip_longest", "itertools.pairwise"].contains n && vs[0]? == some (rawInt _)) = true then _ else _) Q E s
           rw [if_neg (by intro h; rw [hn, Bool.false_and] at h; cases h)]
           exact wpAny_pure hQ))

def Itl (K : PySem.W.Frag) (a : Addr) : It :=
  ⟨fun i H => ∃ xs x, SqL K H a xs ∧ xs[i]? = some x, fun i H x H' => H' = H ∧ ∀ xs, SqL K H a xs → xs[i]? = some x, fun i H => ∃ xs, SqL K H a xs ∧ xs.length ≤ i⟩
def Itr (lo : Int) (n : Nat) : It := ⟨fun i _ => i < n, fun i H x H' => H' = H ∧ x = .int (lo + i), fun i _ => n ≤ i⟩
theorem turn_list {P : Program} {w : World} {K : PySem.W.Frag} {tg : Expr} (a it : Addr) : Turn P w K tg (Itl K a) [it] it (fun i h => h.IsListIter it a i) where
  mem := by simp
  obj := fun i h st b hb => by
    have e : b = it := by simpa using hb
    subst e
    obtain ⟨o, e, c, d⟩ := st
    exact ⟨o, e, fun v z => by rw [d] at z; cases z⟩
  keep := fun i h h' st k => st.at fun o e => k it (by simp) o e
  item := by
    intro X hP hw hK hc i pins s σ H E I hf st hg
    subst hP hw hK
    obtain ⟨xs, x, hq, hx⟩ := hg
    obtain ⟨its, rv, p, hz⟩ := I.list hq
    obtain ⟨u, hu, ru⟩ := rv.get hx
    obtain ⟨f0, f1, f2, f3, f4, f5⟩ := hf it (by simp)
    refine wpAny_pyNext_list_item st p.isList (x := u) (by simpa using hu) fun h' st' sb => ?_
    have I1 : Inv X pins σ H { s with heap := h' } := I.turned (t' := s.toks) (fun b o hb e => (sb.2 b hb).trans e) f0 f1 f3 f4 f5
    obtain ⟨o, e, c, d⟩ := id st'
    exact ⟨u, rfl, go_of (s := { s with heap := h' }) e c d (by decide) ⟨x, H, I1, ru, ⟨rfl, fun ys hy => by rw [I.list_inj hy hq]; exact hx⟩, st', fun b hb => (hf b hb).1⟩⟩
  done := by
    intro X hP hw hK hc i pins s σ H E I hf st hg
    subst hP hw hK
    obtain ⟨xs, hq, hx⟩ := hg
    obtain ⟨its, rv, p, hz⟩ := I.list hq
    obtain ⟨f0, f1, f2, f3, f4, f5⟩ := hf it (by simp)
    have hl := rv.length
    exact wpAny_pyNext_list_end (I.ok.hd hc) st p.isList (by simp; omega) fun h' eb => ⟨rfl, I.turned (t' := s.toks) (fun b o hb e => eb b o hb e) f0 f1 f3 f4 f5⟩
  self := fun _ _ _ _ _ st h => wpAny_pyIter_listiter st h
theorem turn_range {P : Program} {w : World} {K : PySem.W.Frag} {tg : Expr} (it : Addr) (lo : Int) (n : Nat) : Turn P w K tg (Itr lo n) [it] it (fun i h => IsRangeIter h it (lo + (i : Nat) * 1) ((n : Int) - (i : Nat)) 1) where
  mem := by simp
  obj := fun i h st b hb => by
    have e : b = it := by simpa using hb
    subst e
    exact ⟨_, st, fun v z => by
      have z' : Data.fields _ = Data.cell v := z
      cases z'⟩
  keep := fun i h h' st k => k it (by simp) _ st
  item := by
    intro X hP hw hK hc i pins s σ H E I hf st hg
    subst hP hw hK
    obtain ⟨f0, f1, f2, f3, f4, f5⟩ := hf it (by simp)
    have W := Walks.range (prog := X.prog) (w := X.w) (I.ok.hd hc) it lo 1 n
    refine W.item i s _ _ hg st fun v h' tk hv st' kk => ?_
    obtain ⟨t, rfl⟩ := hv
    have I1 : Inv X pins σ H { s with heap := h', toks := tk } := I.turned (fun b o hb e => kk b o (by simpa using hb) e) f0 f1 f3 f4 f5
    refine ⟨_, rfl, go_of (s := { s with heap := h', toks := tk }) (n := "range_iterator") st' rfl rfl (by decide) ⟨.int (lo + i), H, I1, ⟨t, ?_⟩, ⟨rfl, rfl⟩, st', fun b hb => (hf b hb).1⟩⟩
    rw [Int.mul_one]
  done := by
    intro X hP hw hK hc i pins s σ H E I hf st hg
    subst hP hw hK
    obtain ⟨f0, f1, f2, f3, f4, f5⟩ := hf it (by simp)
    exact wpAny_pyNext_range_end (I.ok.hd hc) st (by have : n ≤ i := hg; omega) fun h' eb => ⟨rfl, I.turned (t' := s.toks) (fun b o hb e => eb b o hb e) f0 f1 f3 f4 f5⟩
  self := fun _ _ _ _ _ st h => wpAny_pyIter_rangeiter st h
end L2

namespace L2
open PySem PySem.Spec PyProof.Rows
section
variable {X : Cx} {tg : Expr}
def iList (K : PySem.W.Frag) (tl : TE) : TI := fun σ H R => tl σ H fun x H1 => ∃ a, x = .ref a ∧ (∃ xs, SqL K H1 a xs) ∧ R (Itl K a) H1
theorem pi_list {l : Expr} {tl : TE} (hl : PE X l tl) : PI X tg l (iList X.K tl) := by
  intro pins s σ H R I h
  refine thn (hl pins s σ H _ I h) fun v s1 ⟨x, H1, I1, r1, q1⟩ => ?_
  obtain ⟨a, e, ⟨xs, hq⟩, q⟩ := q1
  subst e
  cases r1
  obtain ⟨its, rv, p, hz⟩ := I1.list hq
  refine wpAny_pyIter_list p.isList ?_
  refine ⟨s1.heap.objs.size, [s1.heap.objs.size], _, _, H1, rfl, I1.kept (t' := s1.toks) fun b o e => Heap.get?_push_of_some _ e, turn_list a _, ⟨_, Heap.get?_push_size _ rfl, rfl, rfl⟩, fun b hb => ?_, q⟩
  have e : b = s1.heap.objs.size := by simpa using hb
  subst e
  exact I1.fpOk (Nat.le_refl _) (I1.hok.fresh (Nat.le_refl _))
theorem range_it {pins : List (Addr × Obj)} {σ : St} {H : Hp} {s : Shared} {R : It → Hp → Prop} {E : Value → Shared → Prop} {lo hi : Int} {t u v : Tok} {tk : Nat} (I : Inv X pins σ H s) (h1 : -(2 ^ 62) ≤ lo) (h2 : lo < 2 ^ 62) (h3 : -(2 ^ 62) ≤ hi) (h4 : hi < 2 ^ 62)
    (q : R (Itr lo (hi - lo).toNat) H) : wpAny (model X.prog X.w) X.A (pyIter (.ref s.heap.objs.size)) (PIE X pins σ tg R) E { s with heap := s.heap.push { cls := .type "range", data := .fields #[.int lo t, .int hi u, .int 1 v] }, toks := tk } := by
  refine wpAny_pyIter_range (IsRange.new ..) (small_one h1 h2 h3 h4) ?_
  have I1 : Inv X pins σ H { s with heap := s.heap.push { cls := .type "range", data := .fields #[.int lo t, .int hi u, .int 1 v] }, toks := tk } := I.kept fun b o e => Heap.get?_push_of_some _ e
  refine ⟨(s.heap.push { cls := .type "range", data := .fields #[.int lo t, .int hi u, .int 1 v] }).objs.size, [(s.heap.push { cls := .type "range", data := .fields #[.int lo t, .int hi u, .int 1 v] }).objs.size], _, _, H, rfl,
    I1.kept (t' := tk) fun b o e => Heap.get?_push_of_some _ e, turn_range _ lo (hi - lo).toNat, ?_, fun b hb => ?_, q⟩
  · have e1 : lo + ((0 : Nat) : Int) * 1 = lo := by simp
    have e2 : (((hi - lo).toNat : Nat) : Int) - ((0 : Nat) : Int) = Builtin.Range.rangeSize lo hi 1 := by rw [rangeSize_one]; split <;> omega
    show IsRangeIter _ _ (lo + ((0 : Nat) : Int) * 1) ((((hi - lo).toNat : Nat) : Int) - ((0 : Nat) : Int)) 1
    rw [e1, e2]
    exact Heap.get?_push_size _ rfl
  · have e : b = (s.heap.push { cls := .type "range", data := .fields #[.int lo t, .int hi u, .int 1 v] }).objs.size := by simpa using hb
    subst e
    exact I1.fpOk (Nat.le_refl _) (I1.hok.fresh (Nat.le_refl _))
def iRng1 (ta : TA) : TI := fun σ H R => ta σ H fun vs H1 => ∃ j : Int, vs = [.int j] ∧ -(2 ^ 62) ≤ j ∧ j < 2 ^ 62 ∧ R (Itr 0 j.toNat) H1
def iRng2 (ta : TA) : TI := fun σ H R => ta σ H fun vs H1 => ∃ i j : Int, vs = [.int i, .int j] ∧ (-(2 ^ 62) ≤ i ∧ i < 2 ^ 62 ∧ -(2 ^ 62) ≤ j ∧ j < 2 ^ 62) ∧ R (Itr i (j - i).toNat) H1
theorem pi_range1 {a : Expr} {ta : TA} {p pos : Pos} (hg : Gl X "range") (hm : X.mg "range" = none) (ha : PA X [a] ta) (hs : starEach [a] X.env = [(false, eval a X.env)] := by rfl) : PI X tg (.Call (.Name "range" p) [a] [] pos) (iRng1 ta) := by
  intro pins s σ H R I h
  refine Call_ (ld_blt I hg hm boot_range (PyProof.Rows.callWith_type1 (thn (ha pos pins s σ H _ I h) fun us s1 ⟨vs, H1, I1, r1, q1⟩ => ?_) hs rfl))
  obtain ⟨j, e, q1, q2, q⟩ := q1
  subst e
  cases r1 with
  | cons r rr =>
    cases rr
    obtain ⟨t, rfl⟩ := r
    exact call_range_1 (range_it I1 (by omega) (by omega) q1 q2 (by simpa using q))
theorem pi_range2 {a b : Expr} {ta : TA} {p pos : Pos} (hg : Gl X "range") (hm : X.mg "range" = none) (ha : PA X [a, b] ta) (hs : starEach [a, b] X.env = [(false, eval a X.env), (false, eval b X.env)] := by rfl) (hs2 : starEach [b] X.env = [(false, eval b X.env)] := by rfl) :
    PI X tg (.Call (.Name "range" p) [a, b] [] pos) (iRng2 ta) := by
  intro pins s σ H R I h
  refine Call_ (ld_blt I hg hm boot_range (PyProof.Rows.callWith_type1 (thn (ha pos pins s σ H _ I h) fun us s1 ⟨vs, H1, I1, r1, q1⟩ => ?_) (by rw [hs, hs2]) (by rw [hs2]; rfl)))
  obtain ⟨i, j, e, ⟨q1, q2, q3, q4⟩, q⟩ := q1
  subst e
  cases r1 with
  | cons r rr =>
    cases rr with
    | cons r' rr =>
      cases rr
      obtain ⟨t, rfl⟩ := r
      obtain ⟨t', rfl⟩ := r'
      exact call_range_2 (range_it I1 q1 q2 q3 q4 q)

/-! ### for -/
def tFor (wi : TI) (g : TG) (tb : TS) : TS := fun D σ H => wi σ H fun J H1 => ∃ W : Nat → Nat → St → Hp → Prop, (∃ m, W 0 m σ H1) ∧ ∀ i m σ H, W i m σ H →
  (J.stop i H ∧ D.nx σ H) ∨ (J.go i H ∧ ∃ N : St → Hp → Prop, (∀ σ' H', N σ' H' → ∃ m', m' < m ∧ W (i + 1) m' σ' H') ∧ ∀ x H', J.yld i H x H' → g x σ H' fun σ2 H2 => tb { D with nx := N, ct := N, bk := D.nx } σ2 H2)
def pinsAt (fp : List Addr) (h : Heap) : List (Addr × Obj) := fp.filterMap fun b => (h.get? b).map fun o => (b, o)
theorem mem_pinsAt {fp : List Addr} {h : Heap} {b : Addr} {o : Obj} (hb : b ∈ fp) (e : h.get? b = some o) : (b, o) ∈ pinsAt fp h := List.mem_filterMap.mpr ⟨b, hb, by rw [e]; rfl⟩
theorem of_pinsAt {fp : List Addr} {h : Heap} {p : Addr × Obj} (hp : p ∈ pinsAt fp h) : p.1 ∈ fp ∧ h.get? p.1 = some p.2 := by
  obtain ⟨b, hb, e⟩ := List.mem_filterMap.mp hp
  cases q : h.get? b with
  | none => rw [q] at e; cases e
  | some o =>
    rw [q] at e
    have e' : (b, o) = p := Option.some.inj e
    subst e'
    exact ⟨hb, q⟩
theorem Inv.pinned {pins : List (Addr × Obj)} {σ : St} {H : Hp} {s : Shared} {fp : List Addr} (I : Inv X pins σ H s) (hf : ∀ b ∈ fp, FpOk X pins H b) (ho : ∀ b ∈ fp, ∃ o, s.heap.get? b = some o ∧ ∀ v, o.data ≠ .cell v) : Inv X (pins ++ pinsAt fp s.heap) σ H s :=
  I.pins_of fun p hp => (List.mem_append.mp hp).elim (fun z => I.pin p (List.mem_append_right _ z)) fun z => by
    obtain ⟨hb, e⟩ := of_pinsAt z
    obtain ⟨f0, f1, f2, _⟩ := hf p.1 hb
    obtain ⟨o, e', d⟩ := ho p.1 hb
    rw [e] at e'; cases e'
    exact ⟨e, f0, f1, f2, d⟩
theorem Inv.unpinned {pins pl : List (Addr × Obj)} {σ : St} {H : Hp} {s : Shared} (I : Inv X (pins ++ pl) σ H s) : Inv X pins σ H s := I.pins_of fun p hp => I.pin p (List.mem_append_right _ (List.mem_append_left _ hp))
theorem ps_for {iter : Expr} {body : List Stmt} {wi : TI} {g : TG} {tb : TS} {pos : Pos} (hp : PassesOwn (model X.prog X.w) X.A X.env X.xe) (hc : X.calm = true) (hi : PI X tg iter wi) (hg : PG X tg g) (hb : PSs X body tb)
    (hs : ∀ x, foldedSetIterable iter X.env x = pure x := by intro _; rfl) : PS X (.For tg iter body [] pos) (tFor wi g tb) := by
  intro pins s σ H D I h
  refine wpAny_For (thn (hi pins s σ H _ I h) fun v s1 h1 => thn h1 fun itv s2 h2 => ?_) hs
  obtain ⟨it, fp, tn, J, H2, e, I2, T, st2, f2, W, ⟨m0, w0⟩, turn⟩ := h2
  subst e
  -- what stays true of the iterator's objects through the loop
  have stat : ∀ {H' : Hp}, (∀ b ∈ fp, H' b = none) → ∀ b ∈ fp, FpOk X pins H' b := fun hn b hb => ⟨hn b hb, (f2 b hb).2⟩
  refine codeAny_forLoop_any (fun n s' => ∃ i σ' H', Inv X pins σ' H' s' ∧ tn i s'.heap ∧ (∀ b ∈ fp, H' b = none) ∧ W i n σ' H') ?_ m0 ⟨0, σ, H2, I2, st2, fun b hb => (f2 b hb).1, w0⟩
  rintro n s3 ⟨i, σ3, H3, I3, st3, fr3, w3⟩
  rcases turn i n σ3 H3 w3 with ⟨stop, qn⟩ | ⟨go, N, hN, step⟩
  · refine wpAny_passesOwn hp (thn (T.done X rfl rfl rfl hc i pins s3 σ3 H3 X.xe I3 (stat fr3) st3 stop) fun r s4 ⟨hr, I4⟩ => ?_)
    subst hr
    exact wpAny_execs_nil ⟨σ3, H3, I4, qn⟩
  · refine wpAny_passesOwn hp (thn (T.item X rfl rfl rfl hc i pins s3 σ3 H3 X.xe I3 (stat fr3) st3 go) fun r s4 ⟨u, hr, h4⟩ => ?_)
    subst hr
    refine wpAny_passesOwn hp (thn h4 fun _ s5 ⟨x, H5, I5, r5, y5, st5, fr5⟩ => ?_)
    have I5' := I5.pinned (stat fr5) (T.obj _ _ st5)
    refine wpAny_passesOwn hp (thn (hg _ s5 σ3 H5 x u _ I5' r5 (step x H5 y5)) fun _ s6 ⟨σ6, H6, I6, q6⟩ => ?_)
    refine wpAny_passesOwn hp (thn (hb _ s6 σ6 H6 _ I6 q6) fun f s7 q7 => ?_)
    have again : ∀ {σ7 : St} {H7 : Hp}, Inv X (pins ++ pinsAt fp s5.heap) σ7 H7 s7 → N σ7 H7 → ∃ m, m < n ∧ ∃ i σ' H', Inv X pins σ' H' s7 ∧ tn i s7.heap ∧ (∀ b ∈ fp, H' b = none) ∧ W i m σ' H' := fun {σ7 H7} I7 n7 => by
      obtain ⟨m', hm, w7⟩ := hN σ7 H7 n7
      refine ⟨m', hm, i + 1, σ7, H7, I7.unpinned, T.keep _ _ _ st5 fun b hb o e => (I7.pin (b, o) (List.mem_append_right _ (List.mem_append_right _ (mem_pinsAt hb e)))).1, fun b hb => ?_, w7⟩
      obtain ⟨o, e, d⟩ := T.obj _ _ st5 b hb
      exact (I7.pin (b, o) (List.mem_append_right _ (List.mem_append_right _ (mem_pinsAt hb e)))).2.1
    cases f with
    | next => obtain ⟨σ7, H7, I7, n7⟩ := q7; exact again I7 n7
    | cont => obtain ⟨σ7, H7, I7, n7⟩ := q7; exact again I7 n7
    | brk => obtain ⟨σ7, H7, I7, q7⟩ := q7; exact ⟨σ7, H7, I7.unpinned, q7⟩
    | ret v => obtain ⟨x7, σ7, H7, I7, r7, q7⟩ := q7; exact ⟨x7, σ7, H7, I7.unpinned, r7, q7⟩
end

/-! ### the forms one uses -/
theorem for_list {K : PySem.W.Frag} {a : Addr} {xs : List V} {g : TG} {tb : TS} {D : Ends} {σ : St} {H : Hp} (Pv : Nat → St → Hp → Prop) (h0 : Pv 0 σ H) (hl : ∀ i σ H, i ≤ xs.length → Pv i σ H → SqL K H a xs)
    (hs : ∀ i x σ H, xs[i]? = some x → Pv i σ H → g x σ H fun σ2 H2 => tb { D with nx := Pv (i + 1), ct := Pv (i + 1), bk := D.nx } σ2 H2) (hd : ∀ σ H, Pv xs.length σ H → D.nx σ H) :
    ∃ W : Nat → Nat → St → Hp → Prop, (∃ m, W 0 m σ H) ∧ ∀ i m σ H, W i m σ H →
      ((Itl K a).stop i H ∧ D.nx σ H) ∨ ((Itl K a).go i H ∧ ∃ N : St → Hp → Prop, (∀ σ' H', N σ' H' → ∃ m', m' < m ∧ W (i + 1) m' σ' H') ∧ ∀ x H', (Itl K a).yld i H x H' → g x σ H' fun σ2 H2 => tb { D with nx := N, ct := N, bk := D.nx } σ2 H2) := by
  refine ⟨fun i m σ H => m = xs.length - i ∧ i ≤ xs.length ∧ Pv i σ H, ⟨xs.length, by simp, Nat.zero_le _, h0⟩, ?_⟩
  rintro i m σ H ⟨rfl, hi, p⟩
  have q := hl i σ H hi p
  by_cases hlt : i < xs.length
  · refine .inr ⟨⟨xs, xs[i], q, by simp [hlt]⟩, Pv (i + 1), fun σ' H' p' => ⟨xs.length - (i + 1), by omega, rfl, hlt, p'⟩, fun x H' y => ?_⟩
    obtain ⟨e, y⟩ := y
    subst e
    exact hs i x σ _ (y xs q) p
  · have e : i = xs.length := by omega
    subst e
    exact .inl ⟨⟨xs, q, Nat.le_refl _⟩, hd σ H p⟩
theorem for_range {lo : Int} {n : Nat} {g : TG} {tb : TS} {D : Ends} {σ : St} {H : Hp} (Pv : Nat → St → Hp → Prop) (h0 : Pv 0 σ H)
    (hs : ∀ i σ H, i < n → Pv i σ H → g (.int (lo + i)) σ H fun σ2 H2 => tb { D with nx := Pv (i + 1), ct := Pv (i + 1), bk := D.nx } σ2 H2) (hd : ∀ σ H, Pv n σ H → D.nx σ H) :
    ∃ W : Nat → Nat → St → Hp → Prop, (∃ m, W 0 m σ H) ∧ ∀ i m σ H, W i m σ H →
      ((Itr lo n).stop i H ∧ D.nx σ H) ∨ ((Itr lo n).go i H ∧ ∃ N : St → Hp → Prop, (∀ σ' H', N σ' H' → ∃ m', m' < m ∧ W (i + 1) m' σ' H') ∧ ∀ x H', (Itr lo n).yld i H x H' → g x σ H' fun σ2 H2 => tb { D with nx := N, ct := N, bk := D.nx } σ2 H2) := by
  refine ⟨fun i m σ H => m = n - i ∧ i ≤ n ∧ Pv i σ H, ⟨n, by simp, Nat.zero_le _, h0⟩, ?_⟩
  rintro i m σ H ⟨rfl, hi, p⟩
  by_cases hlt : i < n
  · refine .inr ⟨hlt, Pv (i + 1), fun σ' H' p' => ⟨n - (i + 1), by omega, rfl, hlt, p'⟩, fun x H' y => ?_⟩
    obtain ⟨e, y⟩ := y
    subst e y
    exact hs i σ _ hlt p
  · have e : i = n := by omega
    subst e
    exact .inl ⟨Nat.le_refl _, hd σ H p⟩
end L2

namespace L2
open PySem PySem.Spec PyProof.Rows

abbrev R2 := V → V → Hp → VK → Prop
def OpR (X : Cx) (f : Value → Value → Sem Value) (r : R2) : Prop :=
  ∀ (pins : List (Addr × Obj)) (s : Shared) (σ : St) (H : Hp) (x y : V) (v u : Value) (Q : VK), Inv X pins σ H s → RelV x v → RelV y u → r x y H Q →
    wpAny (model X.prog X.w) X.A (f v u) (EP X pins σ Q) X.xe s
def UnR (X : Cx) (f : Value → Sem Value) (r : V → Hp → VK → Prop) : Prop :=
  ∀ (pins : List (Addr × Obj)) (s : Shared) (σ : St) (H : Hp) (x : V) (v : Value) (Q : VK), Inv X pins σ H s → RelV x v → r x H Q →
    wpAny (model X.prog X.w) X.A (f v) (EP X pins σ Q) X.xe s
def CallR (X : Cx) (f : Value) (r : List V → Hp → VK → Prop) : Prop :=
  ∀ (pins : List (Addr × Obj)) (s : Shared) (σ : St) (H : Hp) (xs : List V) (us : List Value) (Q : VK), Inv X pins σ H s → Vals xs us → r xs H Q →
    wpAny (model X.prog X.w) X.A (call f us) (EP X pins σ Q) X.xe s
def tOp (r : R2) (ta tb : TE) : TE := fun σ H Q => ta σ H fun x H1 => tb σ H1 fun y H2 => r x y H2 Q
def tUn (r : V → Hp → VK → Prop) (ta : TE) : TE := fun σ H Q => ta σ H fun x H1 => r x H1 Q
def rI (C : Int → Int → Prop) (g : Int → Int → V) : R2 := fun x y H Q => ∃ i j, x = .int i ∧ y = .int j ∧ C i j ∧ Q (g i j) H
def rI0 (g : Int → Int → V) : R2 := fun x y H Q => ∃ i j, x = .int i ∧ y = .int j ∧ Q (g i j) H
def rU (g : Int → V) : V → Hp → VK → Prop := fun x H Q => ∃ i, x = .int i ∧ Q (g i) H

section
variable {X : Cx} {a b c : Expr} {ta tb tc : TE} {pos : Pos}

theorem binT (ha : PE X a ta) (hb : PE X b tb) {pins : List (Addr × Obj)} {s : Shared} {σ : St} {H : Hp} {R : V → V → Hp → Prop} (I : Inv X pins σ H s)
    (h : ta σ H fun x H1 => tb σ H1 fun y H2 => R x y H2) {Q : Value → Shared → Prop} {f : Value → Value → Sem Value}
    (hf : ∀ v u s2 x y H2, Inv X pins σ H2 s2 → RelV x v → RelV y u → R x y H2 → wpAny (model X.prog X.w) X.A (f v u) Q X.xe s2) :
    wpAny (model X.prog X.w) X.A (eval a X.env) (fun v s₁ => wpAny (model X.prog X.w) X.A (eval b X.env) (fun u s₂ => wpAny (model X.prog X.w) X.A (f v u) Q X.xe s₂) X.xe s₁) X.xe s := by
  refine thn (ha pins s σ H _ I h) fun v s1 ⟨x, H1, I1, r1, q1⟩ => ?_
  refine thn (hb pins s1 σ H1 _ I1 q1) fun u s2 ⟨y, H2, I2, r2, q2⟩ => ?_
  exact hf v u s2 x y H2 I2 r1 r2 q2

theorem pe_op {op : Operator} {r : R2} (ho : OpR X (binaryOp op) r) (ha : PE X a ta) (hb : PE X b tb) : PE X (.BinOp a op b pos) (tOp r ta tb) := by
  intro pins s σ H Q I h
  exact wpAny_BinOp (binT ha hb I h fun v u s2 x y H2 I2 rx ry q => ho pins s2 σ H2 x y v u Q I2 rx ry q)
theorem pe_un {op : UnaryOp} {r : V → Hp → VK → Prop} (ho : UnR X (unaryOp op) r) (ha : PE X a ta) : PE X (.UnaryOp op a pos) (tUn r ta) := by
  intro pins s σ H Q I h
  exact UnaryOp_ (thn (ha pins s σ H _ I h) fun v s1 ⟨x, H1, I1, r1, q1⟩ => ho pins s1 σ H1 x v Q I1 r1 q1)
/-! ### ints -/
theorem opI {f : Value → Value → Sem Value} {C : Int → Int → Prop} {g : Int → Int → Int}
    (rule : ∀ (i j : Int) (t u : Tok) (s : Shared) (Q : Value → Shared → Prop) (E : Value → Shared → Prop), C i j → Q (.int (g i j) s.toks) { s with toks := s.toks + 1 } → wpAny (model X.prog X.w) X.A (f (.int i t) (.int j u)) Q E s) :
    OpR X f (rI C fun i j => .int (g i j)) := by
  intro pins s σ H x y v u Q I rx ry h
  obtain ⟨i, j, rfl, rfl, hc, q⟩ := h
  obtain ⟨t, rfl⟩ := rx
  obtain ⟨t', rfl⟩ := ry
  exact rule i j t t' s _ _ hc ⟨.int (g i j), H, I.tok _, ⟨_, rfl⟩, q⟩
theorem opI0 {f : Value → Value → Sem Value} {g : Int → Int → Int}
    (rule : ∀ (i j : Int) (t u : Tok) (s : Shared) (Q : Value → Shared → Prop) (E : Value → Shared → Prop), Q (.int (g i j) s.toks) { s with toks := s.toks + 1 } → wpAny (model X.prog X.w) X.A (f (.int i t) (.int j u)) Q E s) :
    OpR X f (rI0 fun i j => .int (g i j)) := by
  intro pins s σ H x y v u Q I rx ry h
  obtain ⟨i, j, rfl, rfl, q⟩ := h
  obtain ⟨t, rfl⟩ := rx
  obtain ⟨t', rfl⟩ := ry
  exact rule i j t t' s _ _ ⟨.int (g i j), H, I.tok _, ⟨_, rfl⟩, q⟩
theorem opB0 {f : Value → Value → Sem Value} {g : Int → Int → Bool}
    (rule : ∀ (i j : Int) (t u : Tok) (s : Shared) (Q : Value → Shared → Prop) (E : Value → Shared → Prop), Q (.bool (g i j)) s → wpAny (model X.prog X.w) X.A (f (.int i t) (.int j u)) Q E s) :
    OpR X f (rI0 fun i j => .bl (g i j)) := by
  intro pins s σ H x y v u Q I rx ry h
  obtain ⟨i, j, rfl, rfl, q⟩ := h
  obtain ⟨t, rfl⟩ := rx
  obtain ⟨t', rfl⟩ := ry
  exact rule i j t t' s _ _ ⟨.bl (g i j), H, I, rfl, q⟩

def CDiv (i j : Int) : Prop := 0 < j ∧ j < 1073741824
def CMul (i j : Int) : Prop := (-(2 ^ 64) < i ∧ i < 2 ^ 64) ∨ (-(2 ^ 64) < j ∧ j < 2 ^ 64)
theorem CMul.ok {i j : Int} (h : CMul i j) : IntMulOk i j := by
  rcases h with ⟨h1, h2⟩ | ⟨h1, h2⟩
  · exact .of_left (intBits_le_64 h1 h2)
  · exact .of_right (intBits_le_64 h1 h2)
theorem two_pow_nn (k : Nat) : (0 : Int) ≤ 2 ^ k := by
  rw [two_pow_cast]
  exact Int.natCast_nonneg _

theorem op_add : OpR X (binaryOp .Add) (rI0 fun i j => .int (i + j)) := opI0 fun _ _ _ _ _ _ _ q => add_int q
theorem op_sub : OpR X (binaryOp .Sub) (rI0 fun i j => .int (i - j)) := opI0 fun _ _ _ _ _ _ _ q => sub_int q
theorem op_mul : OpR X (binaryOp .Mult) (rI CMul fun i j => .int (i * j)) := opI fun _ _ _ _ _ _ _ hc q => mul_int q hc.ok
theorem op_fdiv : OpR X (binaryOp .FloorDiv) (rI CDiv fun i j => .int (i / j)) := opI fun i j _ _ _ _ _ hc q => by
  have h1 : (0 : Int) < j := hc.1
  have h2 : j < 1073741824 := hc.2
  exact floordiv_int (by omega) (by rw [Int.fdiv_eq_ediv_of_nonneg i (by omega)]; exact q) (.inl (PyProof.noPylong_small (by omega)))
theorem op_mod : OpR X (binaryOp .Mod) (rI (fun _ j => 0 < j) fun i j => .int (i % j)) := opI fun i j _ _ _ _ _ hc q => by
  have h1 : (0 : Int) < j := hc
  exact mod_int' (by omega) (by rw [Int.fmod_eq_emod_of_nonneg i (by omega)]; exact q)
theorem op_shr : OpR X (binaryOp .RShift) (rI (fun _ j => 0 ≤ j) fun i j => .int (i / 2 ^ j.toNat)) := opI fun i j _ _ _ _ _ hc q =>
  rshift_int hc (by rw [Int.fdiv_eq_ediv_of_nonneg i (two_pow_nn _)]; exact q)
theorem unI {f : Value → Sem Value} {g : Int → Int}
    (rule : ∀ (i : Int) (t : Tok) (s : Shared) (Q : Value → Shared → Prop) (E : Value → Shared → Prop), Q (.int (g i) s.toks) { s with toks := s.toks + 1 } → wpAny (model X.prog X.w) X.A (f (.int i t)) Q E s) :
    UnR X f (rU fun i => .int (g i)) := by
  intro pins s σ H x v Q I rx h
  obtain ⟨i, rfl, q⟩ := h
  obtain ⟨t, rfl⟩ := rx
  exact rule i t s _ _ ⟨.int (g i), H, I.tok _, ⟨_, rfl⟩, q⟩
theorem un_neg : UnR X (unaryOp .USub) (rU fun i => .int (-i)) := unI fun _ _ _ _ _ q => neg_int q
/-! ### bools among ints: n += (a < b) -/
end

/-! ### comparisons -/
def scal : V → V → Bool
  | .non, .non => true | .non, .int _ => true | .int _, .non => true | .non, .bl _ => true | .bl _, .non => true | .non, .str _ => true | .str _, .non => true
  | .int _, .int _ => true | .bl _, .bl _ => true | .str _, .str _ => true | .byt _, .byt _ => true
  | .int _, .str _ => true | .str _, .int _ => true | .bl _, .str _ => true | .str _, .bl _ => true
  | _, _ => false
def rEq : R2 := fun x y H Q => scal x y = true ∧ Q (.bl (decide (x = y))) H
def rNe : R2 := fun x y H Q => scal x y = true ∧ Q (.bl (!decide (x = y))) H

theorem dec_int {i j : Int} : decide (V.int i = V.int j) = (i == j) := by
  rw [Bool.eq_iff_iff]
  simp
theorem dec_bl {i j : Bool} : decide (V.bl i = V.bl j) = (i == j) := by
  rw [Bool.eq_iff_iff]
  simp
theorem dec_str {i j : Str} : decide (V.str i = V.str j) = (i == j) := by
  rw [Bool.eq_iff_iff]
  simp
theorem dec_byt {i j : Array UInt8} : decide (V.byt i = V.byt j) = (i.toList == j.toList) := by
  rw [Bool.eq_iff_iff]
  cases i
  cases j
  simp

section
variable {X : Cx} {a b c : Expr} {ta tb tc : TE} {pos : Pos}
theorem fin_bl {pins : List (Addr × Obj)} {σ : St} {H : Hp} {s : Shared} {Q : VK} {k k' : Bool} (I : Inv X pins σ H s) (q : Q (.bl k) H) (e : k = k') : EP X pins σ Q (.bool k') s := by
  subst e
  exact ⟨.bl k, H, I, rfl, q⟩
theorem op_eq : OpR X (compareOp .Eq) rEq := by
  intro pins s σ H x y v u Q I rx ry h
  obtain ⟨hs, q⟩ := h
  cases x with
  | non =>
    cases rx
    cases y with
    | non => cases ry; exact PySem.EqNone.eq_none_none (fin_bl I q (by simp))
    | bl j => cases ry; exact PySem.EqNone.eq_none_bool (fin_bl I q (by simp))
    | int j => obtain ⟨t', rfl⟩ := ry; exact PySem.EqNone.eq_none_int (fin_bl I q (by simp))
    | str j => obtain ⟨t', rfl⟩ := ry; exact PySem.EqNone.eq_none_str (fin_bl I q (by simp))
    | _ => exact absurd (show false = true from hs) Bool.false_ne_true
  | bl i =>
    cases rx
    cases y with
    | non => cases ry; exact PySem.EqNone.eq_bool_none (fin_bl I q (by simp))
    | bl j => cases ry; exact eq_bool (fin_bl I q dec_bl)
    | str j => obtain ⟨t', rfl⟩ := ry; exact PySem.EqMixed.eq_bool_str (fin_bl I q (by simp))
    | _ => exact absurd (show false = true from hs) Bool.false_ne_true
  | int i =>
    obtain ⟨t, rfl⟩ := rx
    cases y with
    | non => cases ry; exact PySem.EqNone.eq_int_none (fin_bl I q (by simp))
    | int j => obtain ⟨t', rfl⟩ := ry; exact eq_int (fin_bl I q dec_int)
    | str j => obtain ⟨t', rfl⟩ := ry; exact PySem.EqMixed.eq_int_str (fin_bl I q (by simp))
    | _ => exact absurd (show false = true from hs) Bool.false_ne_true
  | str i =>
    obtain ⟨t, rfl⟩ := rx
    cases y with
    | non => cases ry; exact PySem.EqNone.eq_str_none (fin_bl I q (by simp))
    | bl j => cases ry; exact PySem.EqMixed.eq_str_bool (fin_bl I q (by simp))
    | int j => obtain ⟨t', rfl⟩ := ry; exact PySem.EqMixed.eq_str_int (fin_bl I q (by simp))
    | str j => obtain ⟨t', rfl⟩ := ry; exact eq_str (fin_bl I q dec_str)
    | _ => exact absurd (show false = true from hs) Bool.false_ne_true
  | byt i =>
    obtain ⟨t, rfl⟩ := rx
    cases y with
    | byt j => obtain ⟨t', rfl⟩ := ry; exact PySem.W.eq_bytes (fin_bl I q dec_byt)
    | _ => exact absurd (show false = true from hs) Bool.false_ne_true
  | _ => cases y <;> exact absurd (show false = true from hs) Bool.false_ne_true
theorem op_ne : OpR X (compareOp .NotEq) rNe := by
  intro pins s σ H x y v u Q I rx ry h
  obtain ⟨hs, q⟩ := h
  cases x with
  | non =>
    cases rx
    cases y with
    | non => cases ry; exact PySem.EqNone.ne_none_none (fin_bl I q (by simp))
    | bl j => cases ry; exact PySem.EqNone.ne_none_bool (fin_bl I q (by simp))
    | int j => obtain ⟨t', rfl⟩ := ry; exact PySem.EqNone.ne_none_int (fin_bl I q (by simp))
    | str j => obtain ⟨t', rfl⟩ := ry; exact PySem.EqNone.ne_none_str (fin_bl I q (by simp))
    | _ => exact absurd (show false = true from hs) Bool.false_ne_true
  | bl i =>
    cases rx
    cases y with
    | non => cases ry; exact PySem.EqNone.ne_bool_none (fin_bl I q (by simp))
    | bl j => cases ry; exact ne_bool (fin_bl I q (congrArg not dec_bl))
    | str j => obtain ⟨t', rfl⟩ := ry; exact PySem.EqMixed.ne_bool_str (fin_bl I q (by simp))
    | _ => exact absurd (show false = true from hs) Bool.false_ne_true
  | int i =>
    obtain ⟨t, rfl⟩ := rx
    cases y with
    | non => cases ry; exact PySem.EqNone.ne_int_none (fin_bl I q (by simp))
    | int j => obtain ⟨t', rfl⟩ := ry; exact ne_int (fin_bl I q (congrArg not dec_int))
    | str j => obtain ⟨t', rfl⟩ := ry; exact PySem.EqMixed.ne_int_str (fin_bl I q (by simp))
    | _ => exact absurd (show false = true from hs) Bool.false_ne_true
  | str i =>
    obtain ⟨t, rfl⟩ := rx
    cases y with
    | non => cases ry; exact PySem.EqNone.ne_str_none (fin_bl I q (by simp))
    | bl j => cases ry; exact PySem.EqMixed.ne_str_bool (fin_bl I q (by simp))
    | int j => obtain ⟨t', rfl⟩ := ry; exact PySem.EqMixed.ne_str_int (fin_bl I q (by simp))
    | str j => obtain ⟨t', rfl⟩ := ry; exact ne_str (fin_bl I q (congrArg not dec_str))
    | _ => exact absurd (show false = true from hs) Bool.false_ne_true
  | byt i =>
    obtain ⟨t, rfl⟩ := rx
    cases y with
    | byt j => obtain ⟨t', rfl⟩ := ry; exact PySem.W.ne_bytes (fin_bl I q (congrArg not dec_byt))
    | _ => exact absurd (show false = true from hs) Bool.false_ne_true
  | _ => cases y <;> exact absurd (show false = true from hs) Bool.false_ne_true

theorem op_lt : OpR X (compareOp .Lt) (rI0 fun i j => .bl (decide (i < j))) := opB0 fun _ _ _ _ _ _ _ q => lt_int q
theorem op_le : OpR X (compareOp .LtE) (rI0 fun i j => .bl (decide (i ≤ j))) := opB0 fun _ _ _ _ _ _ _ q => le_int q
theorem op_gt : OpR X (compareOp .Gt) (rI0 fun i j => .bl (decide (j < i))) := opB0 fun _ _ _ _ _ _ _ q => gt_int q
theorem op_ge : OpR X (compareOp .GtE) (rI0 fun i j => .bl (decide (j ≤ i))) := opB0 fun _ _ _ _ _ _ _ q => ge_int q
theorem op_in_str : OpR X (compareOp .In) (fun x y H Q => ∃ i j, x = .str i ∧ y = .str j ∧ Q (.bl (!(Builtin.Str.occurrences j i 0 j.length 1).isEmpty)) H) := by
  intro pins s σ H x y v u Q I rx ry h
  obtain ⟨i, j, rfl, rfl, q⟩ := h
  obtain ⟨t, rfl⟩ := rx
  obtain ⟨t', rfl⟩ := ry
  exact in_str (fin_bl I q rfl)

theorem op_isN : OpR X (compareOp .Is) (fun x y H Q => y = .non ∧ Q (.bl (decide (x = .non))) H) := by
  intro pins s σ H x y v u Q I rx ry h
  obtain ⟨rfl, q⟩ := h
  cases ry
  refine is_none_gen (fin_bl I q ?_)
  cases x <;> first
    | (cases rx; rfl)
    | (obtain ⟨t, rfl⟩ := rx; rfl)
theorem nomark (b : Expr) {op : CmpOp} (h : op ≠ .In := by decide) (h2 : op ≠ .NotIn := by decide) : behindInMarks op b = false := by
  have e1 : (op == CmpOp.In) = false := by cases op <;> first | rfl | exact absurd rfl h
  have e2 : (op == CmpOp.NotIn) = false := by cases op <;> first | rfl | exact absurd rfl h2
  cases b <;> simp [behindInMarks, e1, e2]
theorem pe_cmpR {op : CmpOp} {r : R2} (ho : OpR X (compareOp op) r) (ha : PE X a ta) (hb : PE X b tb) (hm : behindInMarks op b = false) : PE X (.Compare a [op] [b] pos) (tOp r ta tb) := by
  intro pins s σ H Q I h
  exact wpAny_Compare1 (binT ha hb I h fun v u s2 x y H2 I2 rx ry q => ho pins s2 σ H2 x y v u Q I2 rx ry q) hm
def tTest (t : TE) : TT := fun σ H Q => t σ H fun x H' => ∃ k, x = .bl k ∧ Q k H'
theorem pt_cmpR {op : CmpOp} {r : R2} (ho : OpR X (compareOp op) r) (ha : PE X a ta) (hb : PE X b tb) (hm : behindInMarks op b = false) : PT X (.Compare a [op] [b] pos) (tTest (tOp r ta tb)) := by
  intro pins s σ H Q I h
  refine wpAny_isTrue_Compare1 (thn (ha pins s σ H _ I h) fun v s1 ⟨x, H1, I1, r1, q1⟩ => thn (hb pins s1 σ H1 _ I1 q1) fun u s2 ⟨y, H2, I2, r2, q2⟩ =>
    thn (ho pins s2 σ H2 x y v u _ I2 r1 r2 q2) fun c s3 ⟨z, H3, I3, r3, k, e, q3⟩ => ?_) hm
  subst e
  cases r3
  exact wpAny_truthy_bool ⟨H3, I3, q3⟩
def tChain (r r' : R2) (ta tb tc : TE) : TE := fun σ H Q => ta σ H fun x H1 => tb σ H1 fun y H2 => r x y H2 fun z H3 => ∃ k, z = .bl k ∧
  (if k = true then tc σ H3 fun w' H4 => r' y w' H4 Q else Q (.bl false) H3)
theorem pe_chain {op op' : CmpOp} {r r' : R2} (ho : OpR X (compareOp op) r) (ho' : OpR X (compareOp op') r') (ha : PE X a ta) (hb : PE X b tb) (hc : PE X c tc)
    (hm : lastMarks [op, op'] [b, c] = false := by with_unfolding_all rfl) : PE X (.Compare a [op, op'] [b, c] pos) (tChain r r' ta tb tc) := by
  intro pins s σ H Q I h
  refine Compare_chain (thn (ha pins s σ H _ I h) fun v s1 ⟨x, H1, I1, r1, q1⟩ => chain_link (thn (hb pins s1 σ H1 _ I1 q1) fun u s2 ⟨y, H2, I2, r2, q2⟩ =>
    thn (ho pins s2 σ H2 x y v u _ I2 r1 r2 q2) fun d s3 ⟨z, H3, I3, r3, k, e, q3⟩ => ?_)) hm
  subst e
  cases r3
  refine wpAny_truthy_bool ?_
  cases k with
  | false => exact ite_ff ⟨.bl false, H3, I3, rfl, q3⟩
  | true => exact ite_tt (chain_last (thn (hc pins s3 σ H3 _ I3 q3) fun w' s4 ⟨z', H4, I4, r4, q4⟩ => ho' pins s4 σ H4 y z' u w' Q I4 r2 r4 q4))
theorem pt_chain {op op' : CmpOp} {r r' : R2} (ho : OpR X (compareOp op) r) (ho' : OpR X (compareOp op') r') (ha : PE X a ta) (hb : PE X b tb) (hc : PE X c tc)
    (hm : lastMarks [op, op'] [b, c] = false := by with_unfolding_all rfl) : PT X (.Compare a [op, op'] [b, c] pos) (tTest (tChain r r' ta tb tc)) := by
  intro pins s σ H Q I h
  refine isTrue_chain (thn (ha pins s σ H _ I h) fun v s1 ⟨x, H1, I1, r1, q1⟩ => test_link (thn (hb pins s1 σ H1 _ I1 q1) fun u s2 ⟨y, H2, I2, r2, q2⟩ =>
    thn (ho pins s2 σ H2 x y v u _ I2 r1 r2 q2) fun d s3 ⟨z, H3, I3, r3, k, e, q3⟩ => ?_)) hm
  subst e
  cases r3
  refine wpAny_truthy_bool ?_
  cases k with
  | false =>
    obtain ⟨k', e', q'⟩ := q3
    cases e'
    exact ite_ff ⟨H3, I3, q'⟩
  | true =>
    refine ite_tt (test_last (thn (hc pins s3 σ H3 _ I3 q3) fun w' s4 ⟨z', H4, I4, r4, q4⟩ => thn (ho' pins s4 σ H4 y z' u w' _ I4 r2 r4 q4) fun d' s5 ⟨z2, H5, I5, r5, k2, e2, q5⟩ => ?_))
    subst e2
    cases r5
    exact wpAny_truthy_bool ⟨H5, I5, q5⟩

/-! ### truth -/
theorem line63 : (sizeLine : Nat) < 2 ^ 63 := by rw [sizeLine_eq]; decide
/-! ### strs and bytes -/
theorem op_add_str : OpR X (binaryOp .Add) (fun x y H Q => ∃ i j, x = .str i ∧ y = .str j ∧ i.length + j.length ≤ sizeLine ∧ Q (.str (i ++ j)) H) := by
  intro pins s σ H x y v u Q I rx ry h
  obtain ⟨i, j, rfl, rfl, hz, q⟩ := h
  obtain ⟨t, rfl⟩ := rx
  obtain ⟨t', rfl⟩ := ry
  exact add_str (fun t' tk => ⟨.str (i ++ j), H, I.tok _, ⟨_, rfl⟩, q⟩) hz
/-! ### scalar builtins, by CallR -/
theorem vals1 {x : V} {us : List Value} (r : Vals [x] us) : ∃ u, us = [u] ∧ RelV x u := by
  cases r with
  | cons r1 r2 => cases r2; exact ⟨_, rfl, r1⟩
theorem vals2 {x y : V} {us : List Value} (r : Vals [x, y] us) : ∃ u w', us = [u, w'] ∧ RelV x u ∧ RelV y w' := by
  cases r with
  | cons r1 r2 =>
    cases r2 with
    | cons r3 r4 => cases r4; exact ⟨_, _, rfl, r1, r3⟩
theorem call_max2 (hc : X.calm = true) : CallR X (.builtin "max") (fun xs H Q => ∃ i j, xs = [.int i, .int j] ∧ Q (.int (if j > i then j else i)) H) := by
  intro pins s σ H xs us Q I r h
  obtain ⟨i, j, rfl, q⟩ := h
  obtain ⟨u, w', rfl, ⟨t, rfl⟩, ⟨t', rfl⟩⟩ := vals2 r
  refine max_two_ints (I.ok.hd hc) fun h' tk k => ⟨_, H, I.kept k, ?_, q⟩
  by_cases hj : j > i
  · rw [if_pos hj, if_pos hj]; exact ⟨_, rfl⟩
  · rw [if_neg hj, if_neg hj]; exact ⟨_, rfl⟩
theorem call_min2 (hc : X.calm = true) : CallR X (.builtin "min") (fun xs H Q => ∃ i j, xs = [.int i, .int j] ∧ Q (.int (if j < i then j else i)) H) := by
  intro pins s σ H xs us Q I r h
  obtain ⟨i, j, rfl, q⟩ := h
  obtain ⟨u, w', rfl, ⟨t, rfl⟩, ⟨t', rfl⟩⟩ := vals2 r
  refine min_two_ints (I.ok.hd hc) fun h' tk k => ⟨_, H, I.kept k, ?_, q⟩
  by_cases hj : j < i
  · rw [if_pos hj, if_pos hj]; exact ⟨_, rfl⟩
  · rw [if_neg hj, if_neg hj]; exact ⟨_, rfl⟩
theorem call_int1 : CallR X (.type "int") (fun xs H Q => (∃ i, xs = [.int i] ∧ Q (.int i) H) ∨ ∃ k, xs = [.bl k] ∧ Q (.int (if k then 1 else 0)) H) := by
  intro pins s σ H xs us Q I r h
  rcases h with ⟨i, rfl, q⟩ | ⟨k, rfl, q⟩
  · obtain ⟨u, rfl, t, rfl⟩ := vals1 r
    exact call_int_int ⟨.int i, H, I, ⟨_, rfl⟩, q⟩
  · obtain ⟨u, rfl, r1⟩ := vals1 r
    cases r1
    exact call_int_bool ⟨.int (if k then 1 else 0), H, I.tok _, ⟨_, rfl⟩, q⟩
end
end L2

namespace L2
open PySem PySem.Spec PyProof.Rows

/-! ### an instance, its attributes a map -/
structure ObjM (h : Heap) (x dx C : Addr) (mA : Str → Option Value) : Prop where
  obj : h.get? x = some (PySem.W.instObj C dx)
  ns : h.Ns1 dx mA
  ne : dx ≠ x

theorem lookIn_ns {h : Heap} {dx : Addr} {mA : Str → Option Value} (n : h.Ns1 dx mA) : ∃ od, h.get? dx = some od ∧ ∀ name, PySem.W.lookIn name od = some (mA name) := by
  obtain ⟨o, es, ep, ho, hd, hk, _, hm⟩ := n
  refine ⟨o, ho, fun name => ?_⟩
  have e := hm name
  unfold nsFind findBy at e
  rw [← Array.find?_toList] at e
  unfold PySem.W.lookIn
  rw [hd]
  dsimp only
  split
  · rename_i y q
    rw [q] at e
    exact congrArg some e
  · rename_i q
    rw [q] at e
    have a : es.toList.any (·.refKey) = false := by
      rw [List.any_eq_false]
      intro y hy
      obtain ⟨z, t, hkey⟩ := hk y (Array.mem_toList_iff.mp hy)
      simp [DictEntry.refKey, hkey]
    have a' : ¬ es.toList.any (·.refKey) = true := by rw [a]; exact Bool.false_ne_true
    rw [if_neg a']
    exact congrArg some e

theorem ObjM.look {h : Heap} {x dx C : Addr} {mA : Str → Option Value} (I : ObjM h x dx C mA) : ∃ od, PySem.W.InstAt h x (PySem.W.instObj C dx) C (some od) ∧ ∀ name, PySem.W.lookIn name od = some (mA name) :=
  let ⟨od, ho, hl⟩ := lookIn_ns I.ns
  ⟨od, ⟨I.obj, rfl, rfl, ho⟩, hl⟩

section
variable {prog : Program} {w : World} {A : Around} {E : Value → Shared → Prop} {s : Shared} {K : PySem.W.Frag} {x dx C f : Addr} {mA : Str → Option Value} {name : Str} {v : Value}

end

/-! ### the attributes as a list of pairs -/
def putF (f : Str) (v : V) : List (Str × V) → List (Str × V)
  | [] => [(f, v)]
  | (g, x) :: r => if g = f then (g, v) :: r else (g, x) :: putF f v r
section
variable {P : Program} {w : World} {H H' : Hp} {h h' : Heap} {a C dx : Addr} {fs fs' : List (Str × V)}
theorem ins_get (hok : HOk P w H h) (e : H a = some (.ins C dx fs)) : ∃ mA, ObjM h a dx C mA ∧ (∀ f, RelO (fs.lookup f) (mA f)) ∧ PySem.Within mA (fs.map (·.1)) ∧ fs.length ≤ 1000 ∧ H dx = some (.own a) := by
  obtain ⟨d, z, ne, ob, mA, n, r, q⟩ := (show ObjOk P w H h a (.ins C dx fs) from hok a _ e)
  exact ⟨mA, ⟨ob, n, ne⟩, r, q, z, d⟩
end

/-! ### what of the text a class must have -/
structure Cls (K : PySem.W.Frag) (C : Addr) : Prop where
  pg : PySem.W.plainGet K C Str.empty = true
  hd : PySem.W.hasDictIn K C = true
  po : PySem.W.plainOver K C = true
  sa : PySem.W.findIn K (.ref C) "__setattr__" = some (some (.builtin "object.__setattr__"))
theorem Cls.get {K : PySem.W.Frag} {C : Addr} (c : Cls K C) (f : Str) : PySem.W.plainGet K C f = true := c.pg
section
variable {X : Cx} {pins : List (Addr × Obj)} {σ : St} {H : Hp} {s : Shared} {a C dx : Addr} {fs : List (Str × V)} {f : Str} {v : V} {A : Around} {E : Value → Shared → Prop}

end

/-! ### readings and rules -/
section
variable {X : Cx} {o e value : Expr} {f : Str} {pos pos' tpos : Pos} {ta tv : TE}
end

/-! ### isinstance -/
section
variable {X : Cx} {pins : List (Addr × Obj)} {σ : St} {H : Hp} {s : Shared} {A : Around} {E : Value → Shared → Prop} {Q : Value → Shared → Prop} {c : Value} {b : Bool}
inductive TyOf (K : PySem.W.Frag) (H : Hp) : V → Value → Prop where
  | non : TyOf K H .non (.type "NoneType")
  | bl (x : Bool) : TyOf K H (.bl x) (.type "bool")
  | int (i : Int) : TyOf K H (.int i) (.type "int")
  | str (x : Str) : TyOf K H (.str x) (.type "str")
  | flt (x : UInt64) : TyOf K H (.flt x) (.type "float")
  | lst {a : Addr} {xs : List V} (e : H a = some (.lst xs)) : TyOf K H (.ref a) (.type "list")
  | frz {a : Addr} {o : Obj} {xs : List V} (e : H a = some (.frz o (.lst xs))) : TyOf K H (.ref a) (.type "list")
  | tup {a : Addr} {xs : List V} (e : H a = some (.tup xs)) : TyOf K H (.ref a) (.type "tuple")
  | dK {a : Addr} {kvs : List (Key × V)} (e : H a = some (.dK kvs)) : TyOf K H (.ref a) (.type "dict")
  | dT {a : Addr} {kvs : List (List Key × V)} (e : H a = some (.dT kvs)) : TyOf K H (.ref a) (.type "dict")
  | ins {a C dx : Addr} {fs : List (Str × V)} (e : H a = some (.ins C dx fs)) (cl : Cls K C) (ha : PySem.W.findIn K (.ref C) "__class__" = some (some (.builtin "object.__class__")))
      (hn : PySem.W.specialIn K (.builtin "object.__class__") "__get__" = some (some (.builtin "getset_descriptor.__get__"))) (htk : PySem.W.takesIn K (.builtin "object.__class__") = some true)
      (hm : PySem.W.mroIn K C (.type "object") = some true) : TyOf K H (.ref a) (.ref C)
theorem isinst_ok {x : V} {u t : Value} (I : Inv X pins σ H s) (rx : RelV x u) (ty : TyOf X.K H x t) (e : PySem.W.kitOne X.K t c = some b) (h : ∀ tk, Q (.bool b) { s with toks := tk }) :
    wpAny (model X.prog X.w) A (call (.builtin "isinstance") [u, c]) Q E s := by
  cases ty with
  | non => cases (show u = Value.none from rx); exact PySem.W.kia_one PySem.W.kitx_none I.kIn True.intro e (fun z => nomatch z) h
  | bl y => cases (show u = Value.bool y from rx); exact PySem.W.kia_one PySem.W.kitx_bool I.kIn True.intro e (fun z => nomatch z) h
  | int i => obtain ⟨t, q⟩ := (show ∃ t, u = Value.int i t from rx); cases q; exact PySem.W.kia_one PySem.W.kitx_int I.kIn True.intro e (fun z => nomatch z) h
  | str y => obtain ⟨t, q⟩ := (show ∃ t, u = Value.str y t from rx); cases q; exact PySem.W.kia_one PySem.W.kitx_str I.kIn True.intro e (fun z => nomatch z) h
  | flt y => obtain ⟨t, q⟩ := (show ∃ t, u = Value.float y t from rx); cases q; exact PySem.W.kia_one PySem.W.kitx_float I.kIn True.intro e (fun z => nomatch z) h
  | @lst a xs ea =>
    cases (show u = Value.ref a from rx)
    obtain ⟨_, _, n, _, h1⟩ := (show ObjOk X.prog X.w H s.heap a (.lst xs) from I.hok a _ ea)
    exact PySem.W.kia_one PySem.W.kitx_list I.kIn ⟨_, h1, rfl⟩ e (fun z => nomatch z) h
  | @frz a ob xs ea =>
    cases (show u = Value.ref a from rx)
    obtain ⟨_, _, _, n, _, h1⟩ := (show ObjOk X.prog X.w H s.heap a (.frz ob (.lst xs)) from I.hok a _ ea)
    exact PySem.W.kia_one PySem.W.kitx_list I.kIn ⟨_, h1, rfl⟩ e (fun z => nomatch z) h
  | @tup a xs ea =>
    cases (show u = Value.ref a from rx)
    obtain ⟨_, _, _, p⟩ := (show ObjOk X.prog X.w H s.heap a (.tup xs) from I.hok a _ ea)
    obtain ⟨o, h1, h2, _⟩ := p
    exact PySem.W.kia_one PySem.W.kitx_tuple I.kIn ⟨o, h1, h2⟩ e (fun z => nomatch z) h
  | @dK a kvs ea =>
    cases (show u = Value.ref a from rx)
    obtain ⟨_, _, vs, _, p⟩ := (show ObjOk X.prog X.w H s.heap a (.dK kvs) from I.hok a _ ea)
    obtain ⟨o, es, ep, h1, h2, _⟩ := p
    exact PySem.W.kia_one PySem.W.kitx_dict I.kIn ⟨o, h1, h2.1⟩ e (fun z => nomatch z) h
  | @dT a kvs ea =>
    cases (show u = Value.ref a from rx)
    obtain ⟨_, _, xs, _, o, es, ep, h1, h2, _⟩ := (show ObjOk X.prog X.w H s.heap a (.dT kvs) from I.hok a _ ea)
    exact PySem.W.kia_one PySem.W.kitx_dict I.kIn ⟨o, h1, h2.1⟩ e (fun z => nomatch z) h
  | @ins a C dx fs ea cl ha hn htk hm =>
    cases (show u = Value.ref a from rx)
    obtain ⟨mA, O, _⟩ := ins_get I.hok ea
    obtain ⟨od, J, _⟩ := O.look
    exact PySem.W.kia_one (PySem.W.kitx_own (cl.get _) cl.hd ha hn htk hm) I.kIn J e (fun z => nomatch z) h
end
end L2

namespace L2
open PySem PySem.Spec PyProof.Rows

/-! ### room -/
structure Room (k : Nat) (A : Around) : Prop where
  hd : A.handled = none
  dp : A.depth + 3 * k + 5 < recursionLimit
  un : A.units + 16 * k + 200 < cLine
theorem Room.mono {j k : Nat} {A : Around} (r : Room k A) (h : j ≤ k) : Room j A := ⟨r.hd, by have := r.dp; omega, by have := r.un; omega⟩
theorem Room.deeper {k : Nat} {A : Around} (r : Room (k + 1) A) (env : Env) : Room k (A.deeper env) :=
  ⟨r.hd, by have := r.dp; show A.depth + 1 + 3 * k + 5 < _; omega, by have := r.un; show A.units + 3 + 16 * k + 200 < _; omega⟩
theorem Room.depth {k : Nat} {A : Around} (r : Room k A) : A.depth < recursionLimit := by have := r.dp; omega
theorem Room.units {k : Nat} {A : Around} (r : Room k A) : A.units + 64 < cLine := by have := r.un; omega
/-! ### argument lists and displays -/
def tNil : TA := fun _ H Q => Q [] H
def tCons (ta : TE) (tr : TA) : TA := fun σ H Q => ta σ H fun x H1 => tr σ H1 fun xs H2 => Q (x :: xs) H2
section
variable {X : Cx} {e : Expr} {es : List Expr} {te : TE} {t : TA} {pos : Pos}
theorem pa_nil : PA X [] tNil := fun _ _ _ _ H Q I h => Calls.spliced_nil ⟨[], H, I, .nil, h⟩
theorem pa_cons (ha : PE X e te) (hr : PA X es t) (hs : starEach (e :: es) X.env = (false, eval e X.env) :: starEach es X.env := by rfl) : PA X (e :: es) (tCons te t) := by
  intro pos pins s σ H Q I h
  rw [hs]
  show wpAny _ _ (spliced ((false, eval e X.env) :: backTo pos (starEach es X.env))) _ _ s
  refine Calls.spliced_cons (thn (ha pins s σ H _ I h) fun u s1 ⟨x, H1, I1, r1, q1⟩ => ?_)
  exact thn (hr pos pins s1 σ H1 _ I1 q1) fun us s2 ⟨xs, H2, I2, r2, q2⟩ => ⟨x :: xs, H2, I2, .cons r1 r2, q2⟩

def tTup (t : TA) : TE := fun σ H Q => t σ H fun xs H1 => xs.length ≤ sizeLine ∧ ∀ p, H1 p = none → Q (.ref p) (upd H1 p (.tup xs))
def tLst (t : TA) : TE := fun σ H Q => t σ H fun xs H1 => xs.length ≤ sizeLine ∧ ∀ p, H1 p = none → Q (.ref p) (upd H1 p (.lst xs))
theorem pe_tup {x1} (h : PA X es t) : PE X (.Tuple es x1 pos) (tTup t) := by
  intro pins s σ H Q I hq
  refine wpAny_Tuple_spliced (thn (h pos pins s σ H _ I hq) fun us s1 ⟨xs, H1, I1, r, z, q⟩ => ⟨by rw [← r.length]; exact z, ?_⟩)
  have hf : H1 s1.heap.objs.size = none := I1.hok.fresh (Nat.le_refl _)
  refine ⟨.ref s1.heap.objs.size, upd H1 s1.heap.objs.size (.tup xs), I1.laid (t' := s1.toks) (fun b u e => Heap.get?_push_of_some _ e) (Nat.le_refl _) ?_, rfl, q _ hf⟩
  exact ⟨z, us, r, ⟨_, Heap.get?_push_size _ rfl, rfl, _, rfl⟩⟩
theorem pe_lst (h : PA X es t) : PE X (.List es pos) (tLst t) := by
  intro pins s σ H Q I hq
  refine wpAny_List_spliced (thn (h pos pins s σ H _ I hq) fun us s1 ⟨xs, H1, I1, r, z, q⟩ => ⟨by rw [← r.length]; exact z, ?_⟩)
  have hf : H1 s1.heap.objs.size = none := I1.hok.fresh (Nat.le_refl _)
  refine ⟨.ref s1.heap.objs.size, upd H1 s1.heap.objs.size (.lst xs), I1.laid (t' := s1.toks) (fun b u e => Heap.get?_push_of_some _ e) (Nat.le_refl _) ?_, rfl, q _ hf⟩
  exact ⟨z, us, 0, r, Heap.get?_push_size _ rfl⟩
end

/-! ### what a def promises -/
abbrev Sp := List V → Hp → VK → XK → Prop
abbrev CXT := List Env → Hp → Shared → XK → Value → Shared → Prop

structure Env0 (P : Program) (w : World) (K : PySem.W.Frag) (mg : Str → Option Value) (base : Heap) (A : Around) (outer : List Env) (s : Shared) (H : Hp) : Prop where
  frames : A.frames = some outer
  mod : Mod K mg base
  bs : ∀ b o, base.get? b = some o → s.heap.get? b = some o ∧ H b = none
  bsz : base.objs.size ≤ s.heap.objs.size
  funs : s.heap.FunFrames base outer
  frf : ∀ b ∈ frs outer, H b = none
  hok : HOk P w H s.heap
  bare : AllBare s.gens
def CE (outer : List Env) (P : Program) (w : World) (H : Hp) (s : Shared) (Q : VK) (u : Value) (s' : Shared) : Prop :=
  ∃ v H', s'.os = s.os ∧ AllBare s'.gens ∧ Un (frs outer) [] H H' s.heap s'.heap ∧ HOk P w H' s'.heap ∧ RelV v u ∧ Q v H'
def CR (CX : CXT) (outer : List Env) (P : Program) (w : World) (H : Hp) (s : Shared) (Q : VK) (E : XK) (r : Result) (s' : Shared) : Prop :=
  match r with
  | .ok (.ret u) => CE outer P w H s Q u s'
  | .ok _ => False
  | .error e => CX outer H s E e s'
structure FnOk (P : Program) (w : World) (K : PySem.W.Frag) (mg : Str → Option Value) (base : Heap) (CX : CXT) (k : Nat) (f : Addr) (fd : FuncData) (ps : List Str) (sp : Sp) : Prop where
  len : ∀ vs H Q E, sp vs H Q E → vs.length = ps.length
  run : ∀ (A : Around) (outer : List Env) (s : Shared) (H : Hp) (args : Args) (us : List Value) (vs : List V) (Q : VK) (E : XK), Room k A → Env0 P w K mg base A outer s H → BindsTo s fd args (ps.zip us) → Vals vs us → sp vs H Q E →
    codeAny (model P w) A (.call (.ref f) args) (CR CX outer P w H s Q E) s
section
variable {X : Cx} {pins : List (Addr × Obj)} {σ : St} {H : Hp} {s s' : Shared}
theorem Inv.env0 (I : Inv X pins σ H s) : Env0 X.prog X.w X.K X.mg X.base X.A X.stack s H :=
  ⟨I.ok.frames, I.ok.mod, I.bs, Nat.le_trans I.ok.bsz I.sz, I.stack, I.stkFree, I.hok, I.bare⟩
theorem Inv.after {Q : VK} {u : Value} (I : Inv X pins σ H s) (h : CE X.stack X.prog X.w H s Q u s') : EP X pins σ Q u s' := by
  obtain ⟨v, H', os, bare, un, hok, r, q⟩ := h
  obtain ⟨hh, g, d, t, os'⟩ := s'
  obtain rfl : os' = s.os := os
  exact ⟨v, H', I.call (h' := hh) (g' := g) (d' := d) (t' := t) (ch := []) un hok bare (fun b z => absurd z (by simp)), r, q⟩
end

/-! ### calls -/
def Binds (K : PySem.W.Frag) (fd : FuncData) (ps : List Str) (ds : List Value) : Prop :=
  ∀ (s : Shared) (us : List Value), K.In s.heap → (us ++ ds).length = ps.length → BindsTo s fd ⟨us, []⟩ (ps.zip (us ++ ds))
theorem Binds.all {K : PySem.W.Frag} {fd : FuncData} {ps : List Str} (h : ∀ us : List Value, us.length = ps.length → bindArgs fd ⟨us, []⟩ = pure (ps.zip us)) : Binds K fd ps [] := fun s us _ hl => by
  rw [List.append_nil] at hl ⊢
  exact .of_eq (h us hl)

def Passes (CX : CXT) (X : Cx) (E : XK) : Prop := ∀ (pins : List (Addr × Obj)) (σ : St) (H : Hp) (s : Shared) (e : Value) (s' : Shared), Inv X pins σ H s → CX X.stack H s E e s' → X.xe e s'

section
variable {X : Cx} {CX : CXT} {k : Nat} {f C : Addr} {fd : FuncData} {ps : List Str} {sp : Sp} {dvs : List V} {ds : List Value} {E : XK} {x m : Str} {p pos apos : Pos} {e o : Expr} {es : List Expr} {ta : TE} {t : TA}

theorem run_fn {pins : List (Addr × Obj)} {σ : St} {H : Hp} {s : Shared} {Q : VK} {us : List Value} {vs : List V} (F : FnOk X.prog X.w X.K X.mg X.base CX k f fd ps sp) (hr : Room k X.A) (hb : Binds X.K fd ps ds) (hd : Vals dvs ds) (hx : Passes CX X E)
    (I : Inv X pins σ H s) (r : Vals vs us) (h : sp (vs ++ dvs) H Q E) : wpAny (model X.prog X.w) X.A (call (.ref f) us) (EP X pins σ Q) X.xe s := by
  have r2 : Vals (vs ++ dvs) (us ++ ds) := r.append hd
  have hl : (us ++ ds).length = ps.length := by rw [← r2.length]; exact F.len _ _ _ _ h
  refine wpAny_call (codeAny_mono (F.run X.A X.stack s H ⟨us, []⟩ (us ++ ds) (vs ++ dvs) Q E hr I.env0 (hb s us I.kIn hl) r2 h) fun r s' hq => ?_)
  cases r with
  | error e => exact hx pins σ H s e s' I hq
  | ok fl =>
    cases fl with
    | ret u => exact I.after hq
    | next => exact False.elim hq
    | brk => exact False.elim hq
    | cont => exact False.elim hq

structure Mk (K : PySem.W.Frag) (C f : Addr) : Prop where
  makes : PySem.W.makesIn K C = true
  init : PySem.W.findIn K (.ref C) "__init__" = some (some (.ref f))
  fn : PySem.W.isFn K (.ref f) = true
  kp : PySem.W.keepIn K (.ref C) = true

end

/-! ### keywords -/
section
variable {X : Cx} {CX : CXT} {k : Nat} {f C : Addr} {fd : FuncData} {ps ks : List Str} {sp : Sp} {E : XK} {x m : Str} {p pos apos kpos : Pos} {e o : Expr} {es : List Expr} {kws : List Keyword} {te ta : TE} {t tk : TA} {nm : Option Str}
variable {g : List Value → List Value → List Value} {gV : List V → List V → List V}
end

/-! ### a def's body keeps its promise -/
structure FnScope (N P : List Str) (sc : Scope) : Prop where
  kind : sc.kind = .function
  co : sc.isCoroutine = false
  gen : sc.isGenerator = false
  nd : N.Nodup
  pre : N.take P.length = P
  par : ∀ x ∈ P, sc.names.lookup x = some .local ∨ sc.names.lookup x = some .cell
  nofree : ∀ y ∈ sc.names, y.2 ≠ .free

theorem bindL_out {kindOf : Str → Option NameKind} {x : Str} : ∀ {binds : List (Str × Value)} {m : Str → Option Value}, (∀ v, (x, v) ∉ binds) → bindL kindOf binds m x = m x
  | [], _, _ => rfl
  | (n, v) :: r, m, h => by
    unfold bindL
    rw [bindL_out fun w hw => h w (List.mem_cons_of_mem _ hw)]
    split
    · have : x ≠ n := by rintro rfl; exact h v List.mem_cons_self
      simp [this]
    · rfl
theorem bindC_out {kindOf : Str → Option NameKind} {x : Str} : ∀ {binds : List (Str × Value)} {m : Str → Option Value}, (∀ v, (x, v) ∉ binds) → bindC kindOf binds m x = m x
  | [], _, _ => rfl
  | (n, v) :: r, m, h => by
    unfold bindC
    rw [bindC_out fun w hw => h w (List.mem_cons_of_mem _ hw)]
    split
    · rfl
    · have : x ≠ n := by rintro rfl; exact h v List.mem_cons_self
      simp [this]
theorem bindL_get {kindOf : Str → Option NameKind} {x : Str} {v : Value} : ∀ {P : List Str} {vs : List Value} {i : Nat} {m : Str → Option Value}, P.Nodup → P[i]? = some x → vs[i]? = some v → kindOf x = some .local →
    bindL kindOf (P.zip vs) m x = some v
  | [], _, _, _, _, h, _, _ => by simp at h
  | _ :: _, [], _, _, _, _, h, _ => by simp at h
  | p :: P, w :: vs, 0, m, nd, h1, h2, hk => by
    simp at h1 h2; subst h1; subst h2
    show bindL kindOf ((p, w) :: P.zip vs) m p = _
    unfold bindL
    rw [bindL_out fun v hv => (List.nodup_cons.mp nd).1 (List.of_mem_zip hv).1, if_pos hk]
    simp
  | p :: P, w :: vs, i + 1, m, nd, h1, h2, hk => by
    show bindL kindOf ((p, w) :: P.zip vs) m x = _
    unfold bindL
    exact bindL_get (i := i) (List.nodup_cons.mp nd).2 (by simpa using h1) (by simpa using h2) hk
theorem bindC_get {kindOf : Str → Option NameKind} {x : Str} {v : Value} : ∀ {P : List Str} {vs : List Value} {i : Nat} {m : Str → Option Value}, P.Nodup → P[i]? = some x → vs[i]? = some v → kindOf x ≠ some .local →
    bindC kindOf (P.zip vs) m x = some v
  | [], _, _, _, _, h, _, _ => by simp at h
  | _ :: _, [], _, _, _, _, h, _ => by simp at h
  | p :: P, w :: vs, 0, m, nd, h1, h2, hk => by
    simp at h1 h2; subst h1; subst h2
    show bindC kindOf ((p, w) :: P.zip vs) m p = _
    unfold bindC
    rw [bindC_out fun v hv => (List.nodup_cons.mp nd).1 (List.of_mem_zip hv).1, if_neg hk]
    simp
  | p :: P, w :: vs, i + 1, m, nd, h1, h2, hk => by
    show bindC kindOf ((p, w) :: P.zip vs) m x = _
    unfold bindC
    exact bindC_get (i := i) (List.nodup_cons.mp nd).2 (by simpa using h1) (by simpa using h2) hk

def start (N : List Str) (vs : List V) : St := vs.map some ++ List.replicate (N.length - vs.length) none

def cxOf (CX : CXT) (P : Program) (w : World) (K : PySem.W.Frag) (mg : Str → Option Value) (base : Heap) (N : List Str) (qual : Str) (scope : Scope) (f : Addr) (cd : Value) (A : Around) (outer : List Env) (s : Shared) (H : Hp) (E : XK) : Cx where
  prog := P
  w := w
  K := K
  mg := mg
  base := base
  A := A.deeper (envOfC qual scope s.heap.objs.size f cd)
  N := N
  s₀ := s
  H₀ := H
  env := envOfC qual scope s.heap.objs.size f cd
  outer := outer
  stack := envOfC qual scope s.heap.objs.size f cd :: outer
  ex := []
  calm := true
  fn := fun _ => true
  pn := []
  xe := fun e s' => wpAny (model P w) (A.deeper (envOfC qual scope s.heap.objs.size f cd)) (leaving (envOfC qual scope s.heap.objs.size f cd) e) (fun _ s'' => CX outer H s E e s'') (fun e' s'' => CX outer H s E e' s'') s'

theorem cell_has {sc : Scope} {n : Nat} {x : Str} (h : sc.names.lookup x = some .cell) : ∃ c, (cellsFrom n sc.names []).lookup x = some c := by
  have q := PySem.W.cellsFrom_some sc.names n [] (.inl h)
  exact Option.isSome_iff_exists.mp q

theorem inv_start {CX : CXT} {P : Program} {w : World} {K : PySem.W.Frag} {mg : Str → Option Value} {base : Heap} {N ps : List Str} {qual : Str} {scope : Scope} {f : Addr} {cd : Value} {A : Around} {outer : List Env} {s s1 : Shared} {H : Hp} {E : XK} {us : List Value} {vs : List V}
    (S : FnScope N ps scope) (hd : A.handled = none) (e0 : Env0 P w K mg base A outer s H) (hl : vs.length = ps.length) (r : Vals vs us)
    (x : InCallC s s.heap.objs.size (bindL (envOfC qual scope s.heap.objs.size f cd).kindOf (ps.zip us) fun _ => none) (cellsFrom (s.heap.objs.size + 1) scope.names []) (bindC (envOfC qual scope s.heap.objs.size f cd).kindOf (ps.zip us) fun _ => none) s1) :
    Inv (cxOf CX P w K mg base N qual scope f cd A outer s H E) [] (start N vs) H s1 := by
  have hpl : ps.length ≤ N.length := by have := congrArg List.length S.pre; rw [List.length_take] at this; omega
  obtain ⟨h1, tk, rfl, hk⟩ := x.done
  have noA : ∀ b : Addr, b ∉ (cxOf CX P w K mg base N qual scope f cd A outer s H E).ex := fun b z => absurd (show b ∈ ([] : List Addr) from z) (by simp)
  refine ⟨⟨e0.mod, S.kind, rfl, rfl, Nat.le_refl _, fun y z c h1 h2 => ?_, fun y hy => ?_, fun y c _ h => ?_, fun _ => hd, Around.frames_deeper e0.frames, .inr ⟨rfl, rfl⟩, fun b z => absurd z (noA b), e0.bs, e0.bsz, fun b _ _ => noA b, fun b z => absurd z (noA b), e0.funs, e0.frf⟩,
    rfl, e0.bare, Un.kept hk, ⟨_, x.toInCall.ns, fun i y v h1 h2 h3 => ?_⟩, fun y c h => ⟨_, x.cell y c h⟩, e0.hok.fresh (Nat.le_refl _), fun y c h => ?_, fun p hp => absurd (show p ∈ ([] : List (Addr × Obj)) from hp) (by simp), e0.hok.kept hk, ?_⟩
  · exact name_of_addr x.apart (PySem.mem_of_lookup h1) (PySem.mem_of_lookup h2)
  · have hy : scope.names.lookup y = some .cell ∨ scope.names.lookup y = some .free := hy
    rcases hy with hy | hy
    · exact cell_has hy
    · exact absurd rfl (S.nofree _ (PySem.mem_of_lookup hy))
  · exact Nat.le_of_lt (x.above y c (PySem.mem_of_lookup h))
  · have hi : i < vs.length := by
      unfold start at h2
      by_cases hi : i < vs.length
      · exact hi
      · rw [List.getElem?_append_right (by simpa using hi)] at h2
        rw [List.getElem?_replicate] at h2
        split at h2 <;> cases h2
    have ha : vs[i]? = some v := by
      unfold start at h2
      rw [List.getElem?_append_left (by simpa using hi), List.getElem?_map] at h2
      cases e : vs[i]? with
      | none => rw [e] at h2; cases h2
      | some a => rw [e] at h2; cases h2; rfl
    obtain ⟨u, hu, rv⟩ := r.get ha
    have hp : ps[i]? = some y := by
      rw [← S.pre, List.getElem?_take_of_lt (by omega)]; exact h1
    have ndP : ps.Nodup := by rw [← S.pre]; exact S.nd.sublist (List.take_sublist _ _)
    refine ⟨u, rv, ?_⟩
    rcases S.par y (List.mem_of_getElem? hp) with k | k
    · exact .inl ⟨k, bindL_get ndP hp hu k⟩
    · obtain ⟨c, e⟩ := cell_has (n := s.heap.objs.size + 1) k
      refine .inr ⟨.inl k, c, e, ?_⟩
      have q := x.cell y c e
      rw [bindC_get ndP hp hu (by show scope.names.lookup y ≠ _; rw [k]; decide)] at q
      exact q
  · exact e0.hok.fresh (Nat.le_of_lt (x.above y c (PySem.mem_of_lookup h)))
  · unfold start
    show _ = N.length
    rw [List.length_append, List.length_map, List.length_replicate]
    omega

theorem fn_of {CX : CXT} {P : Program} {w : World} {K : PySem.W.Frag} {mg : Str → Option Value} {base : Heap} {k : Nat} {f : Addr} {name qual : Str} {params : Arguments} {body : List Stmt} {scope : Scope} {dV kV doc pm cdv ct oc : Value} {an od : Option Addr}
    {osl : Array (Option Value)} {N ps : List Str} {sp : Sp} (lk : K.lookup f = some ⟨oc, od, .func (PySem.W.fnOf name qual params body scope dV kV doc pm an cdv ct), osl⟩) (hcd : PySem.W.codeIn K cdv qual = true) (S : FnScope N ps scope)
    (len : ∀ vs H Q E, sp vs H Q E → vs.length = ps.length)
    (hbody : ∀ (A : Around) (outer : List Env) (s : Shared) (H : Hp) (vs : List V) (Q : VK) (E : XK), Room k (A.deeper (envOfC qual scope s.heap.objs.size f cdv)) → sp vs H Q E →
      ∃ t, PSs (cxOf CX P w K mg base N qual scope f cdv A outer s H E) body t ∧ t { nx := fun _ H' => Q .non H', rt := Q } (start N vs) H) :
    FnOk P w K mg base CX (k + 1) f (PySem.W.fnOf name qual params body scope dV kV doc pm an cdv ct) ps sp := by
  refine ⟨len, fun A outer s H args us vs Q E hr e0 hb r hsp => ?_⟩
  have hl := len _ _ _ _ hsp
  have KX : K.In s.heap := e0.mod.kin.keeps fun b o e => (e0.bs b o e).1
  have lim : s.heap.NoLimit := e0.mod.nolimit.keeps fun b o e => (e0.bs b o e).1
  have hkind : ∀ y ∈ ps.zip us, scope.names.lookup y.1 = some .local ∨ (scope.names.lookup y.1 = some .cell ∧ ((cellsFrom (s.heap.objs.size + 1) scope.names []).lookup y.1).isSome = true) := fun ⟨n, v⟩ hy => by
    rcases S.par n (List.of_mem_zip hy).1 with q | q
    · exact .inl q
    · exact .inr ⟨q, PySem.W.cellsFrom_some _ _ _ (.inl q)⟩
  refine codeAny_call_function hr.depth (KX _ _ lk) rfl S.co S.gen rfl (PySem.W.codeRec_of KX hcd) (hb _ _ _ _ ?_)
  refine wpAny_newFunctionEnv_cells S.kind hkind fun env he s1 x => ?_
  subst he
  refine ⟨lim.keeps x.toInCall.keep, codeAny_func ?_⟩
  obtain ⟨t, ht, hq⟩ := hbody A outer s H vs Q E (hr.deeper _) hsp
  have I : Inv (cxOf CX P w K mg base N qual scope f cdv A outer s H E) [] (start N vs) H s1 := inv_start S hr.hd e0 hl r x
  refine wpAny_mono (ht [] s1 (start N vs) H _ I hq) (fun fl s' hs => ?_) fun e s' hs => hs
  have fin : ∀ {σ' : St} {H' : Hp} {v : V} {u : Value}, Inv (cxOf CX P w K mg base N qual scope f cdv A outer s H E) [] σ' H' s' → RelV v u → Q v H' → CE outer P w H s Q u s' :=
    fun {σ' H' v u} J rv q => ⟨v, H', J.os, J.bare, J.base, J.hok, rv, q⟩
  cases fl with
  | ret u =>
    obtain ⟨v, σ', H', J, rv, q⟩ := hs
    exact fin J rv q
  | next =>
    obtain ⟨σ', H', J, q⟩ := hs
    exact fin (v := V.non) (u := Value.none) J rfl q
  | brk =>
    obtain ⟨_, _, _, q⟩ := hs
    exact False.elim q
  | cont =>
    obtain ⟨_, _, _, q⟩ := hs
    exact False.elim q
end L2

namespace L2
open PySem PySem.Spec PyProof.Rows
section
variable {X : Cx} {x : Str} {p pos : Pos} {e : Expr} {es : List Expr} {t : TA} {id T : String} {r : List V → Hp → VK → Prop}

def tCB (r : List V → Hp → VK → Prop) (t : TA) : TE := fun σ H Q => t σ H fun vs H1 => r vs H1 Q
theorem pe_callB (hc : CallR X (.builtin id) r) (hg : Gl X x) (hm : X.mg x = none) (hv : bootBuiltins x = some (.builtin id)) (ha : PA X (e :: es) t) (hn : x ≠ "__name__" := by decide) (hdb : (x == ("__debug__" : Str)) = false := by decide)
    (he : starEach (e :: es) X.env = (false, eval e X.env) :: starEach es X.env := by rfl) (hpl : (backTo pos (starEach es X.env)).any (·.1) = false := by rfl) : PE X (.Call (.Name x p) (e :: es) [] pos) (tCB r t) := by
  intro pins s σ H Q I h
  refine wpAny_Call_Name_kw (ld_blt I hg hm hv ?_ hn hdb)
  exact PyProof.Rows.callWith_builtin1 (thn (ha pos pins s σ H _ I h) fun us s1 ⟨vs, H1, I1, r1, q1⟩ => hc pins s1 σ H1 vs us Q I1 r1 q1) he hpl
theorem pe_callTy (hc : CallR X (.type T) r) (hg : Gl X x) (hm : X.mg x = none) (hv : bootBuiltins x = some (.type T)) (ha : PA X (e :: es) t) (hn : x ≠ "__name__" := by decide) (hdb : (x == ("__debug__" : Str)) = false := by decide)
    (he : starEach (e :: es) X.env = (false, eval e X.env) :: starEach es X.env := by rfl) (hpl : (backTo pos (starEach es X.env)).any (·.1) = false := by rfl) : PE X (.Call (.Name x p) (e :: es) [] pos) (tCB r t) := by
  intro pins s σ H Q I h
  refine wpAny_Call_Name_kw (ld_blt I hg hm hv ?_ hn hdb)
  exact PyProof.Rows.callWith_type1 (thn (ha pos pins s σ H _ I h) fun us s1 ⟨vs, H1, I1, r1, q1⟩ => hc pins s1 σ H1 vs us Q I1 r1 q1) he hpl
end
end L2

namespace HT
open PySem PyProof.Rows

def lexLt : List Int → List Int → Bool
  | [], [] => false
  | [], _ :: _ => true
  | _ :: _, [] => false
  | x :: xs, y :: ys => if x = y then lexLt xs ys else decide (x < y)
section
open PySem.SeqAt
open PySem.AutoSeq1 (wpAny_loadPart')
open PySem.MeetsSeq PySem.MeetsSeq2 PySem.MeetsSeq3

end

section
variable {prog : Program} {w : World} {A : Around} {E : Value → Shared → Prop} {s : Shared}

/-! ### t[a:b], not the whole -/
def sIx (n d : Nat) : Option Int → Nat
  | none => d
  | some v => if v < 0 then (v + (n : Int)).toNat else min v.toNat n
theorem sIx_none (n d : Nat) : sIx n d none = d := rfl
theorem sIx_nat (n d k : Nat) : sIx n d (some (k : Int)) = min k n := by
  show (if (k : Int) < 0 then ((k : Int) + (n : Int)).toNat else min (k : Int).toNat n) = min k n
  rw [if_neg (by omega), Int.toNat_natCast]
theorem sIx_le (n d : Nat) (hd : d ≤ n) (o : Option Int) : sIx n d o ≤ n := by
  cases o with
  | none => exact hd
  | some v =>
    show (if v < 0 then (v + (n : Int)).toNat else min v.toNat n) ≤ n
    by_cases hv : v < 0
    · rw [if_pos hv]; omega
    · rw [if_neg hv]; exact Nat.min_le_right _ _
end
end HT

namespace L2
open PySem PySem.Spec PyProof.Rows

/-! ### the parts of a slice -/
abbrev TO := St → Hp → (Option Int → Hp → Prop) → Prop
def PO (X : Cx) (e : Option Expr) (t : TO) : Prop :=
  ∀ (pins : List (Addr × Obj)) (s : Shared) (σ : St) (H : Hp) (Q : Option Int → Hp → Prop), Inv X pins σ H s → t σ H Q →
    wpAny (model X.prog X.w) X.A (evalPart e X.env) (fun u s' => ∃ o H', Inv X pins σ H' s' ∧ IsPart u o ∧ Q o H') X.xe s
def tNoPart : TO := fun _ H Q => Q none H
def tPart (t : TE) : TO := fun σ H Q => t σ H fun x H1 => ∃ i, x = .int i ∧ Q (some i) H1

section
variable {X : Cx} {e : Expr} {te : TE} {lo hi : Option Expr} {tl th : TO} {pos p2 : Pos}

theorem po_none : PO X none tNoPart := by
  intro pins s σ H Q I h
  rw [evalPart_none]
  exact wpAny_pure ⟨none, H, I, .none, h⟩
theorem po_some (h : PE X e te) : PO X (some e) (tPart te) := by
  intro pins s σ H Q I hw
  rw [evalPart_some]
  refine thn (h pins s σ H _ I hw) fun u s1 ⟨x, H1, I1, r1, q1⟩ => ?_
  obtain ⟨i, rfl, q⟩ := q1
  obtain ⟨t, rfl⟩ := r1
  exact ⟨some i, H1, I1, .int i t, q⟩

def SlR (X : Cx) (r : V → Option Int → Option Int → Hp → VK → Prop) : Prop :=
  ∀ (pins : List (Addr × Obj)) (s : Shared) (σ : St) (H : Hp) (x : V) (v vl vu : Value) (lo hi : Option Int) (sl : Addr) (Q : VK), Inv X pins σ H s → RelV x v → s.heap.IsSliceOf sl vl vu .none → IsPart vl lo → IsPart vu hi → r x lo hi H Q →
    ∃ T id, typeLookup (.type T) "__getitem__" = pure (some (.builtin id)) ∧ s.TypeIs v T ∧ wpAny (model X.prog X.w) X.A (getItem v (.ref sl)) (EP X pins σ Q) X.xe s
def tSl (r : V → Option Int → Option Int → Hp → VK → Prop) (te : TE) (tl th : TO) : TE := fun σ H Q => te σ H fun x H1 => tl σ H1 fun l H2 => th σ H2 fun u H3 => r x l u H3 Q
theorem pe_slice {r : V → Option Int → Option Int → Hp → VK → Prop} (hr : SlR X r) (he : PE X e te) (hl : PO X lo tl) (hu : PO X hi th) : PE X (.Subscript e (.Slice lo hi none p2) pos) (tSl r te tl th) := by
  intro pins s σ H Q I h
  refine Subscript_ (thn (he pins s σ H _ I h) fun v s1 ⟨x, H1, I1, r1, q1⟩ => ?_)
  refine wpAny_Slice (thn (hl pins s1 σ H1 _ I1 q1) fun vl s2 ⟨l, H2, I2, pl, q2⟩ => thn (hu pins s2 σ H2 _ I2 q2) fun vu s3 ⟨u, H3, I3, pu, q3⟩ => ?_)
  rw [evalPart_none]
  refine wpAny_pure ?_
  have I4 : Inv X pins σ H3 { s3 with heap := s3.heap.push { cls := .type "slice", data := .fields #[vl, vu, .none] } } := I3.kept (t' := s3.toks) fun b ob q => Heap.get?_push_of_some _ q
  obtain ⟨T, id, hT, ht, hg⟩ := hr pins { s3 with heap := s3.heap.push { cls := .type "slice", data := .fields #[vl, vu, .none] } } σ H3 x v vl vu l u s3.heap.objs.size Q I4 r1 (Heap.IsSliceOf.new ..) pl pu q3
  show wpAny (model X.prog X.w) X.A (subscriptTail e (.Slice lo hi none p2) v (.ref s3.heap.objs.size)) (EP X pins σ Q) X.xe { s3 with heap := s3.heap.push { cls := .type "slice", data := .fields #[vl, vu, .none] } }
  exact tail_any (ops := [.ref s3.heap.objs.size, v]) ht hT hg (by with_unfolding_all rfl)

def cutV (xs : List V) (lo hi : Option Int) : List V := (xs.drop (HT.sIx xs.length 0 lo)).take (HT.sIx xs.length xs.length hi - HT.sIx xs.length 0 lo)
theorem cutV_length (xs : List V) (lo hi : Option Int) : (cutV xs lo hi).length ≤ xs.length := by
  unfold cutV
  rw [List.length_take, List.length_drop]
  omega
/-! ### t < u, t + u -/
end
end L2

namespace L2
open PySem PySem.Spec PyProof.Rows

/-! ### places -/
def ixN (n : Nat) (i : Int) : Option Nat := if 0 ≤ i then (if i < n then some i.toNat else none) else if -(n : Int) ≤ i then some (i + n).toNat else none
def atI {α : Type} (xs : List α) (i : Int) : Option α := (ixN xs.length i).bind fun j => xs[j]?
theorem ixN_seq {n : Nat} {i : Int} {j : Nat} (h : ixN n i = some j) : seqIndex? i n = some j ∧ j < n ∧ -(n : Int) ≤ i ∧ i < n := by
  unfold ixN at h
  by_cases h0 : 0 ≤ i
  · rw [if_pos h0] at h
    by_cases h1 : i < n
    · rw [if_pos h1] at h
      have e : i.toNat = j := Option.some.inj h
      exact ⟨by rw [seqIndex_of h0 h1, e], by omega, by omega, h1⟩
    · rw [if_neg h1] at h; cases h
  · rw [if_neg h0] at h
    by_cases h1 : -(n : Int) ≤ i
    · rw [if_pos h1] at h
      have e : (i + n).toNat = j := Option.some.inj h
      exact ⟨by rw [seqIndex_neg (by omega) h1, e], by omega, h1, by omega⟩
    · rw [if_neg h1] at h; cases h
theorem atI_get {α : Type} {xs : List α} {i : Int} {v : α} (h : atI xs i = some v) : ∃ j, seqIndex? i xs.length = some j ∧ xs[j]? = some v ∧ j < xs.length ∧ -(xs.length : Int) ≤ i ∧ i < xs.length := by
  unfold atI at h
  cases e : ixN xs.length i with
  | none => rw [e] at h; cases h
  | some j =>
    rw [e] at h
    obtain ⟨h1, h2, h3, h4⟩ := ixN_seq e
    exact ⟨j, h1, h, h2, h3, h4⟩
theorem atI_nat {α : Type} {xs : List α} {j : Nat} {v : α} (h : xs[j]? = some v) : atI xs (j : Int) = some v := by
  have hj : j < xs.length := (List.getElem?_eq_some_iff.mp h).1
  have e : ixN xs.length (j : Int) = some j := by
    unfold ixN
    rw [if_pos (by omega), if_pos (by omega)]; simp
  unfold atI; rw [e]; exact h
/-! ### what may be subscripted -/
def PlainIx (b : Expr) : Prop := ∀ o i, subscripted b false o i = operate [o, i] (getItem o i)
def IxR (X : Cx) (r : R2) : Prop :=
  ∀ (value slice : Expr) (pins : List (Addr × Obj)) (s : Shared) (σ : St) (H : Hp) (x y : V) (v u : Value) (Q : VK), Inv X pins σ H s → RelV x v → RelV y u → r x y H Q →
    subscripted slice false v u = operate [v, u] (getItem v u) → wpAny (model X.prog X.w) X.A (subscriptTail value slice v u) (EP X pins σ Q) X.xe s
def MtR (X : Cx) (id : String) (r : V → List V → Hp → VK → Prop) : Prop :=
  ∀ (pins : List (Addr × Obj)) (s : Shared) (σ : St) (H : Hp) (x : V) (xs : List V) (v : Value) (us : List Value) (Q : VK), Inv X pins σ H s → RelV x v → Vals xs us → r x xs H Q →
    wpAny (model X.prog X.w) X.A (call (.builtin id) (v :: us)) (EP X pins σ Q) X.xe s
section
variable {X : Cx} {a b : Expr} {ta tb : TE} {pos : Pos}
theorem pe_ix {r : R2} (hr : IxR X r) (ha : PE X a ta) (hb : PE X b tb) (hs : PlainIx b) : PE X (.Subscript a b pos) (tOp r ta tb) := by
  intro pins s σ H Q I h
  exact Subscript_ (binT ha hb I h fun v u s2 x y H2 I2 rx ry q => hr a b pins s2 σ H2 x y v u Q I2 rx ry q (hs _ _))

def rIxL (K : PySem.W.Frag) : R2 := fun x y H Q => ∃ p xs i v, x = .ref p ∧ y = .int i ∧ SqL K H p xs ∧ atI xs i = some v ∧ Q v H
def rIxT (K : PySem.W.Frag) : R2 := fun x y H Q => ∃ p xs i v, x = .ref p ∧ y = .int i ∧ SqT K H p xs ∧ atI xs i = some v ∧ Q v H
def rIxS : R2 := fun x y H Q => ∃ z i c, x = .str z ∧ y = .int i ∧ z.length ≤ sizeLine ∧ atI z.cps.toList i = some c ∧ Q (.str ⟨#[c]⟩) H
theorem ix_list : IxR X (rIxL X.K) := by
  intro value slice pins s σ H x y v u Q I rx ry h hs
  obtain ⟨p, xs, i, z, rfl, rfl, hq, he, q⟩ := h
  cases rx
  obtain ⟨t, rfl⟩ := ry
  obtain ⟨its, r, pl, hz⟩ := I.list hq
  obtain ⟨j, h1, h2, h3, h4, h5⟩ := atI_get he
  obtain ⟨w, ew, rw'⟩ := r.get h2
  have hl := r.length
  have hn := line63
  have fin : EP X pins σ Q w s := ⟨z, H, I, rw', q⟩
  by_cases h0 : 0 ≤ i
  · have hj : i.toNat = j := by
      rw [seqIndex_of h0 h5] at h1
      exact Option.some.inj h1
    exact item_listR pl.isList h0 (by omega) (by rw [hj]; simpa using ew) fin hs
  · have hj : (i + (its.toArray.size : Int)).toNat = j := by
      rw [seqIndex_neg (by omega) h4] at h1
      rw [List.size_toArray, ← hl]
      exact Option.some.inj h1
    exact subscriptTail_builtinR (x := w) pl.isList.typeIs slot_list_getitem.lookup
      (wpAny_getItem_list_neg (Q := fun r s' => r = w ∧ EP X pins σ Q r s') pl.isList (by omega) (by rw [List.size_toArray] <;> omega) (by omega) (by rw [hj]; simpa using ew) ⟨rfl, fin⟩) hs
theorem ix_tup : IxR X (rIxT X.K) := by
  intro value slice pins s σ H x y v u Q I rx ry h hs
  obtain ⟨p, xs, i, z, rfl, rfl, hq, he, q⟩ := h
  cases rx
  obtain ⟨t, rfl⟩ := ry
  obtain ⟨its, r, pl, hz⟩ := I.tuple hq
  obtain ⟨j, h1, h2, h3, h4, h5⟩ := atI_get he
  obtain ⟨w, ew, rw'⟩ := r.get h2
  have hl := r.length
  have hn := line63
  have fin : EP X pins σ Q w s := ⟨z, H, I, rw', q⟩
  exact subscriptTail_builtinR (x := w) pl.typeIs slot_tuple_getitem.lookup
    (getItem_tuple (j := j) (Q := fun r s' => r = w ∧ EP X pins σ Q r s') pl (by omega) (by omega) (by rw [List.size_toArray, ← hl]; exact h1) (by simpa using ew) ⟨rfl, fin⟩) hs
theorem ix_str : IxR X rIxS := by
  intro value slice pins s σ H x y v u Q I rx ry h hs
  obtain ⟨z, i, c, rfl, rfl, hz, he, q⟩ := h
  obtain ⟨t, rfl⟩ := rx
  obtain ⟨t', rfl⟩ := ry
  obtain ⟨j, h1, h2, h3, h4, h5⟩ := atI_get he
  have hl : z.cps.toList.length = z.length := by simp [Str.length]
  rw [hl] at h1 h4 h5
  have hn := line63
  exact tail_any (typeIs_str s z t) slot_str_getitem.lookup (getItem_str (c := c) (by
    have e1 : decide (i < -(2 ^ 63 : Int)) = false := decide_eq_false (by omega)
    have e2 : decide (i ≥ 2 ^ 63) = false := decide_eq_false (by omega)
    rw [e1, e2, Bool.or_false]) (by rw [h1]; simpa using h2) ⟨.str ⟨#[c]⟩, H, I.tok _, ⟨_, rfl⟩, q⟩) hs
/-! ### xs[i] = v, any sign -/
theorem mapSeq_set (its : List Value) (n j : Nat) (u : Value) : Obj.mapSeq (·.setIfInBounds j u) { cls := .type "list", data := .seq its.toArray n } = { cls := .type "list", data := .seq (its.set j u).toArray n } := by
  simp [Obj.mapSeq]
theorem Inv.lst {pins : List (Addr × Obj)} {σ : St} {H : Hp} {s : Shared} {p : Addr} {xs : List V} (I : Inv X pins σ H s) (h : H p = some (.lst xs)) :
    ∃ (its : List Value) (n : Nat), Vals xs its ∧ s.heap.get? p = some { cls := .type "list", data := .seq its.toArray n } ∧ xs.length ≤ sizeLine := by
  obtain ⟨z, its, n, r, e⟩ := I.hok p _ h
  exact ⟨its, n, r, e, z⟩
theorem Inv.lstUpd {pins : List (Addr × Obj)} {σ : St} {H : Hp} {s : Shared} {p : Addr} {xs ys : List V} {its its' : List Value} {n n' : Nat} {f : Obj → Obj} (I : Inv X pins σ H s) (h : H p = some (.lst xs))
    (ho : s.heap.get? p = some { cls := .type "list", data := .seq its.toArray n }) (hf : f { cls := .type "list", data := .seq its.toArray n } = { cls := .type "list", data := .seq its'.toArray n' }) (r : Vals ys its') (hz : ys.length ≤ sizeLine) (t : Nat) :
    Inv X pins σ (upd H p (.lst ys)) { s with heap := s.heap.update p f, toks := t } := by
  have e : (s.heap.update p f).get? p = some { cls := .type "list", data := .seq its'.toArray n' } := by
    rw [Heap.get?_update_self f ho (by rw [hf] <;> rfl), hf]
  refine I.write (x := p) (e := p) (by rw [h]; trivial) (.inl rfl) (fun b u hb q => (Heap.get?_update_other _ _ (Ne.symm hb)).trans q) ⟨_, e⟩ ?_
  exact ⟨hz, its', n', r, e⟩
def rSetL : V → V → V → Hp → (Hp → Prop) → Prop := fun o i v H Q => ∃ p xs k j, o = .ref p ∧ i = .int k ∧ H p = some (.lst xs) ∧ ixN xs.length k = some j ∧ Q (upd H p (.lst (xs.set j v)))
theorem set_list : PSet X rSetL := by
  intro pins s σ H o i v ov iv u Q I ro ri rv h
  obtain ⟨p, xs, k, j, rfl, rfl, hp, hj, q⟩ := h
  cases ro
  obtain ⟨t, rfl⟩ := ri
  obtain ⟨its, n, r, ho, hz⟩ := I.lst hp
  obtain ⟨h1, h2, h3, h4⟩ := ixN_seq hj
  have hl := r.length
  have hn := line63
  have I' : Inv X pins σ (upd H p (.lst (xs.set j v))) { s with heap := s.heap.update p (Obj.mapSeq (·.setIfInBounds j u)) } :=
    I.lstUpd hp ho (mapSeq_set its n j u) (r.set rv j) (by rw [List.length_set]; exact hz) s.toks
  by_cases h0 : 0 ≤ k
  · have hk : k.toNat = j := by
      rw [seqIndex_of h0 h4] at h1
      exact Option.some.inj h1
    exact PySem.W.ki_setAt ho h0 (by omega) (by rw [List.size_toArray, ← hl]; exact h4) (by rw [hk]; exact ⟨_, I', q⟩)
  · have hk : (k + (its.toArray.size : Int)).toNat = j := by
      rw [seqIndex_neg (by omega) h3] at h1
      rw [List.size_toArray, ← hl]
      exact Option.some.inj h1
    exact PySem.W.ki_setBack ho (by omega) (by rw [List.size_toArray, ← hl]; exact h3) (by omega) (by rw [hk]; exact ⟨_, I', q⟩)

/-! ### slices -/
theorem slice_bounds (lo hi : Option Int) (n : Nat) : (sliceBounds lo hi none n).1 = ((HT.sIx n 0 lo : Nat) : Int) ∧ (sliceBounds lo hi none n).2.1 = ((HT.sIx n n hi : Nat) : Int) ∧ (sliceBounds lo hi none n).2.2 = 1 := by
  refine ⟨?_, ?_, rfl⟩
  · cases lo with
    | none => simp [sliceBounds, HT.sIx]
    | some i =>
      simp only [sliceBounds, HT.sIx, Option.getD_none, show (1 : Int) > 0 by decide, if_true]
      by_cases h : i < 0
      · simp only [h, if_true] <;> omega
      · simp only [h, if_false] <;> omega
  · cases hi with
    | none => simp [sliceBounds, HT.sIx]
    | some i =>
      simp only [sliceBounds, HT.sIx, Option.getD_none, show (1 : Int) > 0 by decide, if_true]
      by_cases h : i < 0
      · simp only [h, if_true] <;> omega
      · simp only [h, if_false] <;> omega
theorem slicePick_cut (its : List Value) (lo hi : Option Int) : slicePick its.toArray lo hi none = ((its.drop (HT.sIx its.length 0 lo)).take (HT.sIx its.length its.length hi - HT.sIx its.length 0 lo)).toArray := by
  obtain ⟨h1, h2, h3⟩ := slice_bounds lo hi its.toArray.size
  unfold slicePick
  rw [h1, h2, h3]
  simp only [sliceRange_one, pick_run, List.size_toArray] <;> rfl
def rSlL (K : PySem.W.Frag) : V → Option Int → Option Int → Hp → VK → Prop := fun x lo hi H Q => ∃ a xs, x = .ref a ∧ SqL K H a xs ∧ ∀ p, H p = none → Q (.ref p) (upd H p (.lst (cutV xs lo hi)))
theorem sl_list : SlR X (rSlL X.K) := by
  intro pins s σ H x v vl vu lo hi sl Q I rx hs pl pu h
  obtain ⟨a, xs, rfl, hx, q⟩ := h
  cases rx
  obtain ⟨its, r, ht, hz⟩ := I.list hx
  have hlen := r.length
  refine ⟨"list", _, slot_list_getitem.lookup, ht.isList.typeIs, ?_⟩
  refine wpAny_getItem_list_slice ht.isList hs pl pu .none (by simp) ?_ (by rw [List.size_toArray] <;> omega)
  rw [slicePick_cut, ← hlen]
  refine ⟨.ref s.heap.objs.size, _, I.laid (t' := s.toks) (o := .lst (cutV xs lo hi)) (fun b ob q => Heap.get?_push_of_some _ q) (Nat.le_refl _) ?_, rfl, q _ (I.hok.fresh (Nat.le_refl _))⟩
  exact ⟨Nat.le_trans (cutV_length xs lo hi) hz, _, 0, (r.drop (HT.sIx xs.length 0 lo)).take (HT.sIx xs.length xs.length hi - HT.sIx xs.length 0 lo), Heap.get?_push_size _ rfl⟩

/-! ### in, not in: flat items -/
theorem op_notIn_str : OpR X (compareOp .NotIn) (fun x y H Q => ∃ i j, x = .str i ∧ y = .str j ∧ Q (.bl (!(!(Builtin.Str.occurrences j i 0 j.length 1).isEmpty))) H) := by
  intro pins s σ H x y v u Q I rx ry h
  obtain ⟨i, j, rfl, rfl, q⟩ := h
  obtain ⟨t, rfl⟩ := rx
  obtain ⟨t', rfl⟩ := ry
  exact notIn_str ⟨.bl _, H, I, rfl, q⟩

/-! ### len, list(x), tuple(x) of any list or tuple that is read -/
theorem call_len_seq : CallR X (.builtin "len") (fun xs H Q => ∃ p ys, xs = [.ref p] ∧ (SqL X.K H p ys ∨ SqT X.K H p ys) ∧ Q (.int ys.length) H) := by
  intro pins s σ H xs us Q I r h
  obtain ⟨p, ys, rfl, hq, q⟩ := h
  obtain ⟨u, rfl, rx⟩ := vals1 r
  cases rx
  have hn := line63
  rcases hq with hq | hq
  · obtain ⟨its, r', pl, hz⟩ := I.list hq
    have hlen := r'.length
    exact Calls.call_len_list pl.isList (by simp only [List.size_toArray] <;> omega) ⟨.int ys.length, H, I.tok _, ⟨s.toks + 1, by rw [List.size_toArray, hlen]⟩, q⟩
  · obtain ⟨its, r', pl, hz⟩ := I.tuple hq
    have hlen := r'.length
    exact len_tuple pl (by simp only [List.size_toArray] <;> omega) ⟨.int ys.length, H, I.tok _, ⟨s.toks + 1, by rw [List.size_toArray, hlen]⟩, q⟩
theorem call_len_str : CallR X (.builtin "len") (fun xs H Q => ∃ z, xs = [.str z] ∧ z.length ≤ sizeLine ∧ Q (.int z.length) H) := by
  intro pins s σ H xs us Q I r h
  obtain ⟨z, rfl, hz, q⟩ := h
  obtain ⟨u, rfl, t, rfl⟩ := vals1 r
  have hn := line63
  exact len_str (by omega) ⟨.int z.length, H, I.tok _, ⟨_, rfl⟩, q⟩
theorem CallR.or {f : Value} {r r' : List V → Hp → VK → Prop} (h : CallR X f r) (h' : CallR X f r') : CallR X f (fun xs H Q => r xs H Q ∨ r' xs H Q) := by
  intro pins s σ H xs us Q I rs q
  rcases q with q | q
  · exact h pins s σ H xs us Q I rs q
  · exact h' pins s σ H xs us Q I rs q
theorem call_list_of : CallR X (.type "list") (fun xs H Q => ∃ p ys, xs = [.ref p] ∧ (SqL X.K H p ys ∨ SqT X.K H p ys) ∧ ∀ l, H l = none → Q (.ref l) (upd H l (.lst ys))) := by
  intro pins s σ H xs us Q I r h
  obtain ⟨p, ys, rfl, hq, q⟩ := h
  obtain ⟨u, rfl, rx⟩ := vals1 r
  cases rx
  have fin : ∀ (its : List Value), Vals ys its → ys.length ≤ sizeLine → ∀ (h' : Heap) (c' : Nat), (∀ b o', s.heap.get? b = some o' → h'.get? b = some o') →
      h'.get? s.heap.objs.size = some { cls := .type "list", dict := none, data := .seq its.toArray c', slots := #[] } → EP X pins σ Q (.ref s.heap.objs.size) { s with heap := h' } := fun its r' hz h' c' kp e =>
    ⟨.ref s.heap.objs.size, _, I.laid (t' := s.toks) kp (Nat.le_refl _) (show ObjOk X.prog X.w _ h' _ (.lst ys) from ⟨hz, its, c', r', e⟩), rfl, q _ (I.hok.fresh (Nat.le_refl _))⟩
  rcases hq with hq | hq
  · obtain ⟨its, r', pl, hz⟩ := I.list hq
    have hlen := r'.length
    obtain ⟨o, ho, hc, n, hd⟩ := pl.isList
    exact call_list_seq p (.inl rfl) ho hc hd (fun h' c' kp e => fin its r' hz h' c' kp e) (by simp only [List.size_toArray] <;> omega)
  · obtain ⟨its, r', pl, hz⟩ := I.tuple hq
    have hlen := r'.length
    obtain ⟨o, ho, hc, n, hd⟩ := pl
    exact call_list_seq p (.inr rfl) ho hc hd (fun h' c' kp e => fin its r' hz h' c' kp e) (by simp only [List.size_toArray] <;> omega)
/-! ### the call of a builtin's method: o.m(..) -/
def tyV (K : PySem.W.Frag) (T : String) (x : V) (H : Hp) : Prop := match x with
  | .str _ => T = "str"
  | .int _ => T = "int"
  | .ref p => (T = "list" ∧ ∃ xs, SqL K H p xs) ∨ (T = "tuple" ∧ ∃ o, K.lookup p = some o ∧ o.cls = .type "tuple" ∧ o.dict = none) ∨
      (T = "dict" ∧ ((∃ kvs, H p = some (.dK kvs)) ∨ ∃ kvs, H p = some (.dT kvs))) ∨ (T = "set" ∧ ∃ S n, H p = some (.set S n))
  | _ => False
theorem tyV_is {pins : List (Addr × Obj)} {σ : St} {H : Hp} {s : Shared} {T : String} {x : V} {v : Value} (I : Inv X pins σ H s) (r : RelV x v) (ty : tyV X.K T x H) :
    s.TypeIs v T ∧ ∀ a, v = .ref a → ∃ ob, s.heap.get? a = some ob ∧ ob.dict = none := by
  cases x with
  | str z =>
    obtain ⟨t, rfl⟩ := r
    cases (show T = "str" from ty)
    exact ⟨typeIs_str s z t, fun _ e => nomatch e⟩
  | int i =>
    obtain ⟨t, rfl⟩ := r
    cases (show T = "int" from ty)
    exact ⟨typeIs_int s i t, fun _ e => nomatch e⟩
  | ref p =>
    cases r
    rcases ty with ⟨rfl, xs, hq⟩ | ⟨rfl, o, hk, hc, hd⟩ | ⟨rfl, hk⟩ | ⟨rfl, S, n, hk⟩
    · obtain ⟨its, _, pl, _⟩ := I.list hq
      refine ⟨pl.isList.typeIs, fun a e => ?_⟩
      cases e
      obtain ⟨o, n, e, c, hd, _⟩ := pl
      exact ⟨o, e, hd⟩
    · refine ⟨⟨o, I.kIn p o hk, hc⟩, fun a e => ?_⟩
      cases e
      exact ⟨o, I.kIn _ o hk, hd⟩
    · have z : ∃ o, s.heap.get? p = some o ∧ o.ExactDict := by
        rcases hk with ⟨kvs, hk⟩ | ⟨kvs, hk⟩
        · obtain ⟨_, _, _, _, o, _, _, e, ex, _⟩ := I.hok p _ hk
          exact ⟨o, e, ex⟩
        · obtain ⟨_, _, _, _, o, _, _, e, ex, _⟩ := I.hok p _ hk
          exact ⟨o, e, ex⟩
      obtain ⟨o, e, ex⟩ := z
      refine ⟨⟨o, e, ex.1⟩, fun a e2 => ?_⟩
      cases e2
      exact ⟨o, e, ex.2.1⟩
    · obtain ⟨o, _, _, _, e, ex, _⟩ := I.hok p _ hk
      refine ⟨⟨o, e, ex.1⟩, fun a e2 => ?_⟩
      cases e2
      exact ⟨o, e, ex.2.1⟩
  | _ => exact False.elim ty
def tBM (K : PySem.W.Frag) (T : String) (r : V → List V → Hp → VK → Prop) (to : TE) (t : TA) : TE := fun σ H Q => to σ H fun x H1 => tyV K T x H1 ∧ t σ H1 fun xs H2 => r x xs H2 Q
variable {o e : Expr} {es : List Expr} {to : TE} {t : TA} {name : Str} {apos cpos : Pos} {T id : String} {r : V → List V → Hp → VK → Prop}
theorem pe_bm (pa : PlainAttrs T) (slot : Slot T name id) (hty : typeOf (.builtin id) = pure (.type "method_descriptor")) (hm : MtR X id r) (ho : PE X o to) (ha : PA X (e :: es) t)
    (hbase : attributeBase o name X.env (eval o X.env) = eval o X.env := by rfl)
    (hfew : ((backTo cpos (starEach (e :: es) X.env)).all (fun x => !x.1) && (backToKw cpos (keywordEach [] X.env)).all (fun x => x.1.isSome)
      && decide ((e :: es).length + ([] : List Keyword).length + (if ([] : List Keyword).isEmpty then 0 else 1) < 30)) = true := by rfl)
    (hline : (apos.endLine == cpos.line) = true := by rfl) (hs : starEach (e :: es) X.env = (false, eval e X.env) :: starEach es X.env := by rfl) (hplain : (backTo cpos (starEach es X.env)).any (·.1) = false := by rfl) :
    PE X (.Call (.Attribute o name apos) (e :: es) [] cpos) (tBM X.K T r to t) := by
  intro pins s σ H Q I h
  refine wpAny_Call_method_late hbase hfew hline rfl (thn (ho pins s σ H _ I h) fun v s1 ⟨x, H1, I1, r1, ty, q1⟩ => ?_)
  obtain ⟨h1, h2⟩ := tyV_is I1 r1 ty
  refine ⟨T, id, pa, slot, hty, h1, h2, ?_⟩
  have hA := ha cpos pins s1 σ H1 _ I1 q1
  rw [hs] at hA ⊢
  refine Calls.callWith_builtin (by show (false || (backTo cpos (starEach es X.env)).any (·.1)) = false; rw [hplain] <;> rfl) (Calls.evalArgs_plain ?_)
  exact thn hA fun us s2 ⟨vs, H2, I2, r2, q2⟩ => hm pins s2 σ H2 x vs v us Q I2 r1 r2 q2
/- xs.append(e), list.index on a module's tuple .. are MtR facts of 06m -/
end
end L2

namespace L2
open PySem PySem.Spec PyProof.Rows

def MtM (X : Cx) (id : String) (r : V → List V → Hp → VK → Prop) : Prop :=
  ∀ (pins : List (Addr × Obj)) (s : Shared) (σ : St) (H : Hp) (x : V) (xs : List V) (v : Value) (us : List Value) (Q : VK), Inv X pins σ H s → RelV x v → Vals xs us → r x xs H Q →
    wpAny (model X.prog X.w) X.A (call (.builtin id) (v :: us)) (EP X pins σ Q) X.xe s

/-! ### lists of values -/
theorem Vals.one : ∀ {x : V} {us : List Value}, Vals [x] us → ∃ u, us = [u] ∧ RelV x u
  | _, _, .cons r .nil => ⟨_, rfl, r⟩
section
variable {X : Cx} {pins : List (Addr × Obj)} {σ : St} {H : Hp} {s : Shared} {l b : Addr} {xs ys zs : List V}

/-! ### the two steps: a tracked list is rewritten, a new list is laid -/
theorem Inv.lset {its its' : List Value} {n : Nat} {f : Array Value → Array Value} {t' : Nat} (I : Inv X pins σ H s) (hH : H l = some (.lst xs))
    (e : s.heap.get? l = some { cls := .type "list", data := .seq its.toArray n }) (hf : f its.toArray = its'.toArray) (hv : Vals ys its') (hz : ys.length ≤ sizeLine) :
    Inv X pins σ (upd H l (.lst ys)) { s with heap := s.heap.update l (Obj.mapSeq f), toks := t' } := by
  have q := PySem.IsL.update e f
  rw [hf] at q
  refine I.write (x := l) (e := l) (by rw [hH]; exact trivial) (.inl rfl) (fun b' u hb hu => (Heap.get?_update_other s.heap (Obj.mapSeq f) (Ne.symm hb)).trans hu) ⟨_, q⟩ ?_
  exact ⟨hz, its', _, hv, q⟩
theorem Inv.lnew {its : List Value} {t' : Nat} (I : Inv X pins σ H s) (hv : Vals ys its) (hz : ys.length ≤ sizeLine) :
    Inv X pins σ (upd H s.heap.objs.size (.lst ys)) { s with heap := s.heap.push { cls := .type "list", data := .seq its.toArray }, toks := t' } :=
  I.laid (fun _ _ q => Heap.get?_push_of_some _ q) (Nat.le_refl _) ⟨hz, its, 0, hv, Heap.get?_push_size _ rfl⟩
theorem Inv.fresh (I : Inv X pins σ H s) : H s.heap.objs.size = none := I.hok.fresh (Nat.le_refl _)
theorem Inv.lstM (I : Inv X pins σ H s) (hH : H l = some (.lst xs)) : xs.length ≤ sizeLine ∧ ∃ (its : List Value) (n : Nat), Vals xs its ∧ xs.length = its.length ∧ s.heap.get? l = some { cls := .type "list", data := .seq its.toArray n } := by
  obtain ⟨z, its, n, r, e⟩ := I.hok l _ hH
  exact ⟨z, its, n, r, r.length, e⟩

theorem notLongL {n : Nat} (h : n ≤ sizeLine) : Builtin.List.listTooLong n = false := by
  unfold Builtin.List.listTooLong
  exact decide_eq_false (by omega)
end

section
variable {X : Cx}

/-! ### methods -/
def rAppend : V → List V → Hp → VK → Prop := fun x vs H Q => ∃ l xs y, x = .ref l ∧ vs = [y] ∧ H l = some (.lst xs) ∧ xs.length < sizeLine ∧ Q .non (upd H l (.lst (xs ++ [y])))
theorem mt_append : MtM X "list.append" rAppend := by
  intro pins s σ H x vs v us Q I rx rv h
  obtain ⟨l, xs, y, rfl, rfl, hH, hz, q⟩ := h
  cases rx
  obtain ⟨u, rfl, ru⟩ := rv.one
  obtain ⟨z, its, n, r, hl, e⟩ := I.lstM hH
  refine call_meets F.slot_list_append ⟨_, e, rfl⟩ F.entry_list_append (F.args_list_append_2 _ _) (PySem.list_append l its.toArray n u (by rw [List.size_toArray]; omega)) ⟨e, ?_⟩
  refine ⟨.non, _, I.lset (its' := its ++ [u]) hH e (by simp) (r.append (.cons ru .nil)) ?_, rfl, q⟩
  rw [List.length_append, List.length_singleton]
  omega

def rExtend : V → List V → Hp → VK → Prop := fun x vs H Q => ∃ l b xs zs, x = .ref l ∧ vs = [.ref b] ∧ H l = some (.lst xs) ∧ H b = some (.lst zs) ∧ xs.length + zs.length ≤ sizeLine ∧ Q .non (upd H l (.lst (xs ++ zs)))
theorem mt_extend : MtM X "list.extend" rExtend := by
  intro pins s σ H x vs v us Q I rx rv h
  obtain ⟨l, b, xs, zs, rfl, rfl, hH, hB, hz, q⟩ := h
  cases rx
  obtain ⟨u, rfl, ru⟩ := rv.one
  cases ru
  obtain ⟨z, its, n, r, hl, e⟩ := I.lstM hH
  obtain ⟨z2, its2, n2, r2, hl2, e2⟩ := I.lstM hB
  have hsz : its.toArray.size + its2.toArray.size ≤ sizeLine := by rw [List.size_toArray, List.size_toArray]; omega
  have hlong : ¬ (!its.toArray.isEmpty && Builtin.List.listTooLong (its.toArray.size + its2.toArray.size)) = true := by
    rw [notLongL hsz, Bool.and_false]
    exact Bool.false_ne_true
  refine call_meets F.slot_list_extend ⟨_, e, rfl⟩ F.entry_list_extend (F.args_list_extend_2 _ _)
    (AutoSeq1.list_extend_list_list_0 l its.toArray n b its2.toArray n2 hlong (by rw [List.size_toArray]; omega) (by omega)) ⟨e, e2, ?_⟩
  refine ⟨.non, _, I.lset (its' := its ++ its2) hH e (by simp) (r.append r2) ?_, rfl, q⟩
  rw [List.length_append]
  omega

/-! ### list + list, list += list, list * int -/
def rCat : R2 := fun x y H Q => ∃ l b xs zs, x = .ref l ∧ y = .ref b ∧ H l = some (.lst xs) ∧ H b = some (.lst zs) ∧ xs.length + zs.length ≤ sizeLine ∧ ∀ p, H p = none → Q (.ref p) (upd H p (.lst (xs ++ zs)))
theorem op_cat : OpR X (binaryOp .Add) rCat := by
  intro pins s σ H x y v u Q I rx ry h
  obtain ⟨l, b, xs, zs, rfl, rfl, hH, hB, hz, q⟩ := h
  cases rx
  cases ry
  obtain ⟨z, its, n, r, hl, e⟩ := I.lstM hH
  obtain ⟨z2, its2, n2, r2, hl2, e2⟩ := I.lstM hB
  refine PySem.P.add_list e e2 ?_ (by rw [List.size_toArray, List.size_toArray]; omega)
  have ea : its.toArray ++ its2.toArray = (its ++ its2).toArray := by simp
  rw [ea]
  exact ⟨.ref _, _, I.lnew (t' := s.toks) (r.append r2) (by rw [List.length_append]; omega), rfl, q _ I.fresh⟩
/-! ### del xs[i] -/
end

/-! ### xs[a:b] = ys -/
section
variable {prog : Program} {w : World} {A : Around} {E : Value → Shared → Prop} {s : Shared}
end

section
variable {X : Cx}
end
end L2

namespace Att
open PySem PySem.W PySem.Calls PyProof.Rows

/-! ### the script -/
theorem ints_of_wellAll {P : Params} {h : Heap} : ∀ (ns : List Int) (vs : List Value), WellAll P h vs (ns.map WData.int) → IntsAre vs ns := by
  intro ns
  induction ns with
  | nil =>
    intro vs w
    rw [List.map_nil] at w
    cases w
    exact .nil
  | cons n ns ih =>
    intro vs w
    rw [List.map_cons] at w
    cases w with
    | cons a b =>
      cases a
      exact .cons _ _ (ih _ b)

theorem script_of {l : OpenLaw} {n : Nat} (hn : l.most = some n) {P : Params} {h : Heap} {args : List WData} {vals : List Value}
    (hpre : l.row.toRowW.claim.pre args = true) (hwl : WellAll P h vals args) :
    ∃ a vs ns, vals = [Value.ref a] ∧ args = [WData.list (ns.map WData.int)] ∧ h.get? a = some { cls := .type "list", data := .seq vs.toArray } ∧ IntsAre vs ns ∧ ns.length ≤ n := by
  have hsh : WShape.hasAll [] args [.list .int] = true := (pre_splitW hpre).1
  have hc : l.pre.holds [] { args := args } = true := (pre_splitW hpre).2
  obtain ⟨d, r, rfl, h1, h2⟩ := hasAllW_cons hsh
  obtain rfl := hasAllW_nil h2
  obtain ⟨xs, rfl, h3⟩ := hasW_list h1
  obtain ⟨ns, rfl⟩ := items_int h3
  have hlen : ns.length ≤ n := by
    unfold OpenLaw.pre at hc
    have h4 : (WTm.not (.lt (.lit (.int (n : Int))) (.len (.arg 0)))).holds [] { args := [.list (ns.map .int)] } = true := by
      have h4 := (holds_andW hc).1
      rw [hn] at h4
      exact h4
    have h5 := condW_of h4 (w_not (w_lt w_lit (w_len_list (w_arg rfl))))
    rw [List.length_map] at h5
    refine Nat.le_of_not_lt fun q => ?_
    have q' : (n : Int) < ((ns.length : Nat) : Int) := by omega
    first
      | (rw [decide_eq_true q'] at h5; exact absurd h5 (by decide))
      | (simp at h5; omega)
  cases hwl with
  | cons w1 w2 =>
    cases w2
    cases w1 with
    | list ho hall => exact ⟨_, _, ns, rfl, rfl, ho, ints_of_wellAll ns _ hall, hlen⟩

theorem post_true (l : OpenLaw) (args : List WData) : l.row.toRowW.claim.post args (.bool true) args = true :=
  postW_of (r := l.row.toRowW) (X := (true == true))
    (show WShape.has [] (.bool true) .bool = true by first | rfl | decide | simp [WShape.has, WShape.arms, WShape.armsAll])
    (show (WTm.eq .res (.lit (.bool true))).value [] { args := args, res := some (.bool true), after := args } = some (.bool (true == true)) from w_eq_bool (w_res rfl) w_lit) rfl

/-! ### the attachment: holds_open's last premise (the goal 'hc' behind k_head) from a wpAny of the law's body -/
theorem attach_call {l : OpenLaw} {n : Nat} {q : Program} {loose : List Str} {XP : (Str → Option Value) → Heap → Prop} {YP : World → Heap → Prop} {d : DefRec}
    (hn : l.most = some n) (hdf : d.params.defaults = [])
    (call : ∀ (w : World) (s₀ s₁ : Shared) (mg mb : Str → Option Value) (fa : Addr) (o : Obj) (pm cd doc : Value) (a : Addr) (vs : List Value) (ns : List Int),
      Ground q loose [] XP w s₀ mg mb s₁.heap → YP w s₁.heap →
      s₁.heap.get? fa = some o → o.data = .func (docDef d.name d.params d.body d.scope pm cd doc) → s₁.heap.CodeRec cd d.name → mg d.name = some (.ref fa) →
      s₁.heap.get? a = some { cls := .type "list", data := .seq vs.toArray } → IntsAre vs ns → ns.length ≤ n → s₁.gens = #[] →
      codeAny (model l.prog w) callerA (.call (.ref fa) ⟨[.ref a], []⟩) (fun r s' => r = .ok (.ret (.bool true)) ∧ OldK s₁.heap s'.heap ∧ s'.os = s₁.os ∧ AllBare s'.gens) s₁) :
    WalkO q loose XP YP l.row.toRowW d [] (fun f vs => PySem.call f vs) := by
  intro w s₀ s₁ mg mb G Y fa o pm cd doc dV kV ho hd hcd hD hmg hg args vals as hpre hlay hrd hwl hlo
  obtain rfl : dV = .none := Dflts.none hD hdf
  obtain rfl : kV = .none := Dflts.noKw hD
  obtain ⟨a, vs, ns, rfl, rfl, hobj, hints, hlen⟩ := script_of hn hpre hwl
  refine enter_call (codeAny_mono (call w s₀ s₁ mg mb fa o pm cd doc a vs ns G Y ho (fd_plain hd) hcd hmg hobj hints hlen hg) fun r s' hq => ?_)
  obtain ⟨rfl, h2, h3, h4⟩ := hq
  exact ⟨.inl ⟨.bool true, .bool true, [], rfl, fun _ => rfl, .bool true, post_true l _, fun _ => ⟨List.Pairwise.nil, fun _ hm => (nomatch hm)⟩⟩, h2, h3, h4⟩

/-! ### rules over ANY heap (no ledger) from facts about the written part K: the library's own take a ledger (News) for what they write -/
section
variable {prog : Program} {w : World} {A : Around} {E : Value → Shared → Prop} {s : Shared} {K : Frag}

/-! the whole heap as the ledger: makes every rule that writes through a ledger a rule over any heap -/
def ledger (h : Heap) (L d : Addr) : List (Addr × Obj) := (List.range h.objs.size).filterMap fun a => if a = L ∨ a = d then none else (h.get? a).map fun o => (a, o)
end
end Att

namespace L2
open PySem PySem.Spec PyProof.Rows

theorem vals_ints : ∀ {vs : List Value} {ns : List Int}, IntsAre vs ns → Vals (ns.map V.int) vs
  | _, _, .nil => .nil
  | _, _, .cons n t h => .cons ⟨t, rfl⟩ (vals_ints h)

def Only (H : Hp) : Prop := ∀ b, H b = none ∨ ∃ o xs, H b = some (.frz o (.lst xs))

theorem law_call {P : Program} {w : World} {K : PySem.W.Frag} {mg mb : Str → Option Value} {CX : CXT} {k : Nat} {fa a : Addr} {fd : FuncData} {x : Str} {sp : Sp} {s₁ : Shared} {vs : List Value} {ns : List Int}
    (KX : K.In s₁.heap) (hns : s₁.heap.Ns mainGlobals mg) (hb : s₁.heap.Ns builtinsNs mb) (hbb : ∀ x : Str, x ≠ "__name__" → mb x = bootBuiltins x) (hlim : s₁.heap.NoLimit) (hg : s₁.gens = #[])
    (ha : s₁.heap.get? a = some { cls := .type "list", data := .seq vs.toArray }) (hi : IntsAre vs ns) (hl : ns.length ≤ sizeLine) (hr : Room k callerA)
    (F : ∀ base : Heap, K.In base → base.Ns mainGlobals mg → FnOk P w K mg base CX k fa fd [x] sp) (hbind : ∀ (s : Shared) (u : Value), BindsTo s fd ⟨[u], []⟩ [(x, u)])
    (hsp : ∀ H : Hp, Only H → SqL K H a (ns.map V.int) → sp [.ref a] H (fun v _ => v = .bl true) fun _ _ _ => False)
    (hCX : ∀ H e s', CX [] H s₁ (fun _ _ _ => False) e s' → False) :
    codeAny (model P w) callerA (.call (.ref fa) ⟨[.ref a], []⟩) (fun r s' => r = .ok (.ret (.bool true)) ∧ OldK s₁.heap s'.heap ∧ s'.os = s₁.os ∧ AllBare s'.gens) s₁ := by
  have rv := vals_ints hi
  have lenV := hi.length
  -- from an abstract heap in which nothing but the script may be tracked
  have core : ∀ H : Hp, Only H → SqL K H a (ns.map V.int) → HOk P w H s₁.heap → (∀ b, H b ≠ none → b = a) → (H a ≠ none → K.lookup a = none) →
      codeAny (model P w) callerA (.call (.ref fa) ⟨[.ref a], []⟩) (fun r s' => r = .ok (.ret (.bool true)) ∧ OldK s₁.heap s'.heap ∧ s'.os = s₁.os ∧ AllBare s'.gens) s₁ := by
    intro H hO hS hok hA hK
    have base_of : ∀ {b : Addr} {o : Obj}, s₁.heap.get? b = some o → H b = none → (hidT s₁.heap H).get? b = some o := fun e n => hidT_get e n
    have noA : ∀ {b : Addr} {o : Obj} {es : Array DictEntry} {ep : Nat}, s₁.heap.get? b = some o → o.data = .dict es ep → H b = none := fun {b o es ep} e d => by
      cases q : H b with
      | none => rfl
      | some u =>
        have e' : b = a := hA b (by rw [q]; simp)
        subst e'
        rw [ha] at e; cases e
        have d' : Data.seq vs.toArray _ = Data.dict es ep := d
        cases d'
    have nsK : ∀ {b : Addr} {m : Str → Option Value}, s₁.heap.Ns b m → (hidT s₁.heap H).Ns b m := fun {b m} ⟨o, es, ep, e, d, r⟩ => ⟨o, es, ep, base_of e (noA e d), d, r⟩
    have hKb : K.In (hidT s₁.heap H) := fun b o e => base_of (KX b o e) (by
      cases q : H b with
      | none => rfl
      | some u =>
        have e' : b = a := hA b (by rw [q]; simp)
        subst e'
        rw [hK (by rw [q]; simp)] at e; cases e)
    have hM : Mod K mg (hidT s₁.heap H) := ⟨hKb, nsK hns, ⟨mb, nsK hb, hbb⟩, let ⟨mc, h1, h2⟩ := hlim; ⟨mc, nsK h1, h2⟩⟩
    have e0 : Env0 P w K mg (hidT s₁.heap H) callerA [] s₁ H := ⟨rfl, hM, fun b o e => of_hidT e, Nat.le_of_eq (hidT_size _ _), trivial, fun b hb => absurd (show b ∈ ([] : List Addr) from hb) (by simp), hok, .of_eq hg⟩
    refine codeAny_mono ((F _ hKb (nsK hns)).run callerA [] s₁ H ⟨[.ref a], []⟩ [.ref a] [.ref a] _ _ hr e0 (hbind s₁ (.ref a)) (.cons rfl .nil) (hsp H hO hS)) fun r s' h => ?_
    cases r with
    | error e => exact (hCX H e s' h).elim
    | ok fl =>
      cases fl with
      | next => exact False.elim h
      | brk => exact False.elim h
      | cont => exact False.elim h
      | ret u =>
        obtain ⟨v, H', os, bare, un, hok', r', q⟩ := h
        have q' : v = .bl true := q
        subst q'
        obtain rfl : u = Value.bool true := r'
        refine ⟨rfl, OldK.of_keep fun b o e => ?_, os, bare⟩
        cases q : H b with
        | none => exact un.keep b o e q (by intro z; exact absurd (show b ∈ ([] : List Addr) from z) (by simp)) (by simp)
        | some u =>
          rcases hO b with z | ⟨ob, xs, z⟩
          · rw [q] at z; cases z
          · have z2 := un.frzs b ob _ z
            obtain ⟨e1, _⟩ := hok b _ z
            obtain ⟨e2, _⟩ := hok' b _ z2
            rw [e] at e1; cases e1
            exact e2
  cases hk : K.lookup a with
  | some o =>
    -- the script is one of the module's own objects
    have e := KX a o hk
    rw [ha] at e
    cases e
    refine core (fun _ => none) (fun _ => .inl rfl) (.inr ⟨_, vs.toArray, _, hk, rfl, rfl, rfl, by rw [List.size_toArray, lenV]; exact hl, by simpa using rv⟩) (fun b u z => by have z' : (none : Option HO) = some u := z; cases z') (fun b z => absurd rfl z) fun z => absurd rfl z
  | none =>
    refine core (fun b => if b = a then some (.frz { cls := .type "list", data := .seq vs.toArray } (.lst (ns.map V.int))) else none) (fun b => ?_) (.inl (.inr ⟨{ cls := .type "list", data := .seq vs.toArray }, if_pos rfl⟩)) (fun b u z => ?_) (fun b z => ?_) fun _ => hk
    · by_cases hb : b = a
      · exact .inr ⟨_, _, if_pos hb⟩
      · exact .inl (if_neg hb)
    · by_cases hb : b = a
      · have z' := (if_pos hb).symm.trans z
        cases z'
        subst hb
        exact ⟨ha, by rw [List.length_map]; exact hl, vs, _, rv, ha⟩
      · have z' := (if_neg hb).symm.trans z
        cases z'
    · by_cases hb : b = a
      · exact hb
      · exact absurd (if_neg hb) z
end L2

namespace L2
open PySem PySem.Spec PyProof.Rows

abbrev KOf {K : PySem.W.Frag} {h : Heap} (_ : K.In h) : PySem.W.Frag := K

theorem walk_of {l : PySem.W.OpenLaw} {n k : Nat} {q : Program} {loose : List Str} {XP : (Str → Option Value) → Heap → Prop} {YP : World → Heap → Prop} {d : DefRec} {K : Params → PySem.W.Frag} {CX : World → CXT} {sp : World → Sp} {x : Str}
    (hn : l.most = some n) (hn2 : n ≤ sizeLine) (hdf : d.params.defaults = []) (hr : Room k callerA)
    (hY : ∀ (w : World) (h : Heap), YP w h → (K w.params).In h)
    (F : ∀ (w : World) (mg : Str → Option Value) (fa : Addr) (h : Heap), (K w.params).In h → h.Ns mainGlobals mg → mg d.name = some (.ref fa) →
      ∃ fd : FuncData, (∀ (s : Shared) (u : Value), BindsTo s fd ⟨[u], []⟩ [(x, u)]) ∧
        ∀ base : Heap, (K w.params).In base → base.Ns mainGlobals mg → FnOk l.prog w (K w.params) mg base (CX w) k fa fd [x] (sp w))
    (hsp : ∀ (w : World) (H : Hp) (a : Addr) (ns : List Int), ns.length ≤ n → Only H → SqL (K w.params) H a (ns.map V.int) → sp w [.ref a] H (fun v _ => v = .bl true) fun _ _ _ => False)
    (hCX : ∀ (w : World) (H : Hp) (s : Shared) (e : Value) (s' : Shared), CX w [] H s (fun _ _ _ => False) e s' → False) :
    PySem.W.WalkO q loose XP YP l.row.toRowW d [] (fun f vs => PySem.call f vs) := by
  refine Att.attach_call hn hdf fun w s₀ s₁ mg mb fa o pm cd doc a vs ns G Y ho hd hcd hmg hobj hints hlen hg => ?_
  have KX := hY w _ Y
  obtain ⟨fd, hb, hF⟩ := F w mg fa _ KX G.T.g hmg
  exact law_call KX G.T.g G.T.b G.T.builtins G.T.nolimit hg hobj hints (Nat.le_trans hlen hn2) hr hF hb (fun H hO hS => hsp w H a ns hlen hO hS) fun H e s' => hCX w H s₁ e s'
end L2

/- THE LAST THEOREM (shape; LID, My.* are yours):
   My.Adr: a structure of the addresses that your layer names (classes, functions); My.Txt K t: a structure (Prop) of the equations over K;
   My.txt_mk : {K} {implicit addresses ..} (e1 : nsIn K mainGlobals "law" = some (some (.ref f))) (e2 : K.lookup f = some ⟨oc, od, .func (fnOf "law" "law" params body scope dV kV doc pm an cdv ct), sl⟩) (e3 : codeIn K cdv "law" = true) .. : ∃ t, My.Txt K t

set_option maxRecDepth 100000 in
set_option maxHeartbeats 0 in
theorem PySem.Challenge.cw_LID_holds : PySem.Challenge.rw_LID.Holds := by
  w_on; o_law; k_head; (case hw => w_witness2)
  k_fill
  refine L2.walk_of (l := PySem.Challenge.rw_LID) (n := 63) (k := 40) (x := "script") (CX := fun w => ..) (sp := fun _ => My.sp_law) rfl (by decide) rfl ⟨rfl, by decide, by decide⟩ (fun w h Y => PySem.W.kIn_of Y) ?F ?S ?C
  case F =>
    intro w mg fa h KX G hmg
    have T : ∃ t, My.Txt (L2.KOf KX) t := by
      dsimp only [L2.KOf]                          -- K must stand as «<heap const> w.params» for k_is
      refine' My.txt_mk ?e1 ?e2 ?e3 ..
      (case e1 => PySem.W.k_is)                    -- in the order: a name -> its address -> its object -> its parts
      (case e2 => PySem.W.k_is)
      ..
    obtain ⟨t, T⟩ := T
    have e0 := hmg.symm.trans (PySem.W.mg_of KX G T.law)
    cases e0                                       -- fa is the law's own address
    exact ⟨_, fun s u => .of_eq rfl, fun base kb nb => My.law_fn T kb nb⟩     -- if «.of_eq rfl» comes too early: refine' ⟨_, ?b, fun base kb nb => My.law_fn T kb nb⟩; exact fun s u => .of_eq rfl
  case S => exact fun w H a ns hl hO hS => ..
  case C => exact ..
(the tactic k_is has no namespace: write k_is) -/

/-! SHORT WORDS over the layer: a def of the text, its body, what a loop and a test want. -/
namespace L2
open PySem PySem.Spec PyProof.Rows

/-! ### the text by places -/
def defArgs (s : Stmt) : Arguments := match s with
  | .FunctionDef _ a _ _ _ _ _ _ _ _ => a
  | _ => { posonlyargs := [], args := [], vararg := none, kwonlyargs := [], kw_defaults := [], kwarg := none, defaults := [] }
def defBody (s : Stmt) : List Stmt := match s with
  | .FunctionDef _ _ b _ _ _ _ _ _ _ => b
  | _ => []
def defScope (s : Stmt) : Scope := match s with
  | .FunctionDef _ _ _ _ _ _ sc _ _ _ => sc
  | _ => { kind := .function, names := [], isGenerator := false, isCoroutine := false }

/-! ### no exception leaves a def -/
abbrev CX0 : CXT := fun _ _ _ _ _ _ => False
abbrev E0 : XK := fun _ _ _ => False
theorem pass0 {X : Cx} : Passes CX0 X E0 := fun _ _ _ _ _ _ _ h => h.elim

/-! ### a def (or method) of the text as it stands behind the top -/
structure Fun (K : PySem.W.Frag) (x qual : Str) (st : Stmt) (f : Addr) (fd : FuncData) : Prop where
  ex : ∃ (oc : Value) (od : Option Addr) (kV doc pm : Value) (an : Option Addr) (cdv ct : Value) (osl : Array (Option Value)),
    fd = PySem.W.fnOf x qual (defArgs st) (defBody st) (defScope st) .none kV doc pm an cdv ct ∧ K.lookup f = some ⟨oc, od, .func fd, osl⟩ ∧ PySem.W.codeIn K cdv qual = true
  kp : PySem.W.keepIn K (.ref f) = true
section
variable {P : Program} {w : World} {K : PySem.W.Frag} {mg : Str → Option Value} {base : Heap}
theorem Fun.ok {x qual : Str} {st : Stmt} {f : Addr} {fd : FuncData} {N ps : List Str} {k : Nat} {sp : Sp} (F : Fun K x qual st f fd) (S : FnScope N ps (defScope st)) (len : ∀ vs H Q E, sp vs H Q E → vs.length = ps.length)
    (hbody : ∀ (cdv : Value) (A : Around) (outer : List Env) (s : Shared) (H : Hp) (vs : List V) (Q : VK) (E : XK), Room k (A.deeper (envOfC qual (defScope st) s.heap.objs.size f cdv)) → sp vs H Q E →
      ∃ t, PSs (cxOf CX0 P w K mg base N qual (defScope st) f cdv A outer s H E).nox (defBody st) t ∧ t { nx := fun _ H' => Q .non H', rt := Q } (start N vs) H) : FnOk P w K mg base CX0 (k + 1) f fd ps sp := by
  obtain ⟨oc, od, kV, doc, pm, an, cdv, ct, osl, rfl, lk, hcd⟩ := F.ex
  refine fn_of lk hcd S len fun A outer s H vs Q E hr hsp => ?_
  obtain ⟨t, h, q⟩ := hbody cdv A outer s H vs Q E hr hsp
  exact ⟨t, h.nox, q⟩
theorem Fun.binds {x qual : Str} {st : Stmt} {f : Addr} {fd : FuncData} {ps : List Str} (F : Fun K x qual st f fd)
    (h : ∀ (kV doc pm : Value) (an : Option Addr) (cdv ct : Value) (us : List Value), us.length = ps.length → bindArgs (PySem.W.fnOf x qual (defArgs st) (defBody st) (defScope st) .none kV doc pm an cdv ct) ⟨us, []⟩ = pure (ps.zip us)) : Binds K fd ps [] := by
  obtain ⟨oc, od, kV, doc, pm, an, cdv, ct, osl, rfl, lk, hcd⟩ := F.ex
  exact .all (h kV doc pm an cdv ct)
theorem fun_mk {x qual : Str} {st : Stmt} {f : Addr} {oc : Value} {od an : Option Addr} {osl : Array (Option Value)} {kV doc pm cdv ct : Value} (l : K.lookup f = some ⟨oc, od, .func (PySem.W.fnOf x qual (defArgs st) (defBody st) (defScope st) .none kV doc pm an cdv ct), osl⟩)
    (c : PySem.W.codeIn K cdv qual = true) (k : PySem.W.keepIn K (.ref f) = true) : Fun K x qual st f (PySem.W.fnOf x qual (defArgs st) (defBody st) (defScope st) .none kV doc pm an cdv ct) := ⟨⟨oc, od, kV, doc, pm, an, cdv, ct, osl, rfl, l, c⟩, k⟩
end
/-! ### expressions in short: the name that stands in the i-th slot -/
section
variable {X : Cx}
theorem pv (i : Nat) {x : Str} {pos : Pos} (hN : X.N[i]? = some x := by rfl) (hv : Vis X.env.scope x := by first | exact Or.inl rfl | exact Or.inr (Or.inl rfl) | exact Or.inr (Or.inr rfl)) (hd : (x == ("__debug__" : Str)) = false := by decide)
    (hcd : (x == ("__classdict__" : Str)) = false := by decide) : PE X (.Name x pos) (tVar i) := pe_var hN hv hd hcd
end

/-! ### tests -/
theorem iteF {A B : Prop} (h : B) : if false = true then A else B := by
  rw [if_neg Bool.false_ne_true]
  exact h
theorem iteT {A B : Prop} (h : A) : if true = true then A else B := by
  rw [if_pos rfl]
  exact h
/-! ### heaps -/
def Same (H H' : Hp) : Prop := ∀ b o, H b = some o → H' b = some o
theorem Same.refl (H : Hp) : Same H H := fun _ _ h => h
theorem Same.trans {H H1 H2 : Hp} (a : Same H H1) (b : Same H1 H2) : Same H H2 := fun c o h => b c o (a c o h)
theorem Same.free {H H' : Hp} (e : Same H H') {l : Addr} (h : H' l = Option.none) : H l = Option.none := by
  cases q : H l with
  | none => rfl
  | some o =>
    rw [e l o q] at h
    cases h
theorem Same.seq {K : PySem.W.Frag} {H H' : Hp} {a : Addr} {xs : List V} (e : Same H H') (h : SqL K H a xs) : SqL K H' a xs := by
  rcases h with (h | ⟨o, h⟩) | h
  · exact .inl (.inl (e _ _ h))
  · exact .inl (.inr ⟨o, e _ _ h⟩)
  · exact .inr h

end L2

/-! the head of a row in one go: the text's top is run by the kernel as one equation, with no state written out in between. -/
namespace Hd
open PySem PySem.W PySem.Calls PyProof.Rows

def bt : Nat → Nat → Nat → List Obj → BT
  | 0, _, _, _ => .nil
  | f + 1, a, b, l => match l[b]? with
    | none => .nil
    | some o => .node o (bt f (2 * a) (a + b) l) (bt f (2 * a) (2 * a + b) l)
theorem bt_get : ∀ (f a b : Nat) (l : List Obj) (i : Nat), 0 < a → i < f → (bt f a b l).get i = l[b + a * i]?
  | 0, _, _, _, _, _, h => absurd h (Nat.not_lt_zero _)
  | f + 1, a, b, l, i, ha, hi => by
    unfold bt
    cases e : l[b]? with
    | none =>
      have h1 : l.length ≤ b := List.getElem?_eq_none_iff.mp e
      have h2 : b ≤ b + a * i := Nat.le_add_right _ _
      rw [List.getElem?_eq_none (by omega)]
      rfl
    | some o =>
      show (BT.node o _ _).get i = _
      rw [BT.get_node]
      by_cases h0 : i = 0
      · subst h0; rw [if_pos rfl, Nat.mul_zero, Nat.add_zero, e]
      · rw [if_neg h0]
        by_cases h1 : i % 2 = 1
        · rw [if_pos h1, bt_get f (2 * a) (a + b) l (i / 2) (by omega) (by omega)]
          congr 1
          have e2 : i = 2 * (i / 2) + 1 := by omega
          calc a + b + 2 * a * (i / 2) = b + a * (2 * (i / 2) + 1) := by rw [Nat.mul_add, Nat.mul_one, ← Nat.mul_assoc, Nat.mul_comm a 2]; omega
            _ = b + a * i := by rw [← e2]
        · rw [if_neg h1, bt_get f (2 * a) (2 * a + b) l (i / 2 - 1) (by omega) (by omega)]
          congr 1
          have e2 : i = 2 * ((i / 2 - 1) + 1) := by omega
          calc 2 * a + b + 2 * a * (i / 2 - 1) = b + a * (2 * ((i / 2 - 1) + 1)) := by rw [← Nat.mul_assoc, Nat.mul_comm a 2, Nat.mul_add, Nat.mul_one]; omega
            _ = b + a * i := by rw [← e2]
def toT (n : Nat) (s : Shared) : SharedT := ⟨bt n 1 0 s.heap.objs.toList, n, s.heap.life, s.gens, s.drawn, s.toks, s.os⟩
theorem toT_abs {n : Nat} {s : Shared} (h : s.heap.objs.size = n) : (toT n s).abs = s := by
  obtain ⟨⟨objs, life⟩, g, d, k, os⟩ := s
  have e : absHeap (bt n 1 0 objs.toList) n life = ⟨objs, life⟩ := by
    have q : (absHeap (bt n 1 0 objs.toList) n life).objs = objs := by
      apply Array.ext_getElem?
      intro i
      rw [absHeap_at]
      by_cases hi : i < n
      · rw [if_pos hi, bt_get n 1 0 _ i (by decide) hi, Nat.zero_add, Nat.one_mul]
        have : i < objs.size := by rw [h]; exact hi
        simp [this]
      · rw [if_neg hi]
        exact (Array.getElem?_eq_none (by rw [h]; omega)).symm
    show Heap.mk (absHeap (bt n 1 0 objs.toList) n life).objs life = _
    rw [q]
  show Shared.mk (absHeap (bt n 1 0 objs.toList) n life) g d k os = _
  rw [e]

abbrev body (p : Program) (env : Env) : Code := .body (behindTheImports p) env
abbrev base (fp : Pos) : List Frame := [topFrame fp]

def look {α : Type} (p q : Program) (loose : List Str) (Xt : Shared → Bool) (Yf : Shared → α) (H₀ : Heap) (s : Shared) :=
  ((staticsOk (importedModules p.main.body) H₀ s.heap && namesBound p s.heap && gensDone s && laidKept H₀ s.heap), openSeen q loose (importedModules p.main.body) Xt true s, Yf s)

theorem left_of {p q : Program} {loose : List Str} {Xt : Shared → Bool} {α : Type} {Yf : Shared → α} {Ya : World → α} {N m₀ k1 k2 k3 k4 n₁ : Nat} {ann : Option Value} {env : Env} {fp p1 p2 p3 : Pos}
    (e0 : opening p = plainProg p.main.scope.names) (hN : Nat.ble 600 N = true) (f0 : ∀ s, fenceModules? p s = some s)
    (size : ∀ w : World, ((boot_heap w.params).isNs mainGlobals && (Array.mk ([] : List GenState)).size == 0, (boot_heap w.params).objs.size, (boot_heap w.params).nsMap mainGlobals "__annotations__") = (true, m₀, ann))
    (le : Nat.ble (k1 + (k2 + (k3 + k4))) N = true)
    (h : ∀ w : World, (fun os => (topGo treeTable p w m₀ ann k1 ⟨boot_heap w.params, Array.mk [], boot_drawn, boot_toks, os⟩ (topStub p)).map fun r => (r.2,
        (segRun treeTable p w m₀ ann 1 k2 r.1 (blockOf (behindTheImports p) env (body p env) p1 (base fp))).map fun b => ((b.1, b.2.2, b.2.1.heap.objs.size),
          (segRunT treeTable p w m₀ ann 1 k3 (toT n₁ b.2.1) (piecesOf (behindTheImports p) env (body p env) p2 (base fp))).map fun c => ((c.1, c.2.2),
            (topRun treeTable p w m₀ ann k4 c.2.1.abs ⟨doneF .next, body p env, p3, base fp⟩).map (look p q loose Xt Yf (boot_heap w.params)))))) =
      fun _ => some (⟨denote treeTable (body p env), body p env, p1, base fp⟩, some ((.next, (body p env, p2), n₁), some ((.next, body p env, p3), some (true, openGood q loose, Ya w))))) :
    LeftO p q loose Xt Yf Ya N := fun w => by
  obtain ⟨s0, a0, b0⟩ := Option.map_eq_some_iff.mp (boot_open e0 hN f0 w)
  obtain ⟨hp, gs, d, k, os⟩ := s0
  obtain ⟨rfl, rfl, rfl, rfl⟩ : hp = boot_heap w.params ∧ gs = Array.mk [] ∧ d = boot_drawn ∧ k = boot_toks := by simpa using b0
  obtain ⟨z1, z2, z3⟩ : _ ∧ _ ∧ _ := by simpa only [Prod.mk.injEq] using size w
  obtain ⟨⟨s1, t1⟩, h1, e1⟩ := Option.map_eq_some_iff.mp (congrFun (h w) os)
  obtain ⟨rfl, e1⟩ := Prod.mk.inj e1
  obtain ⟨⟨f2, s2, c2, q2⟩, h2, e2⟩ := Option.map_eq_some_iff.mp e1
  obtain ⟨e2, e2'⟩ := Prod.mk.inj e2
  obtain ⟨rfl, e2⟩ := Prod.mk.inj e2
  obtain ⟨e2, hz⟩ := Prod.mk.inj e2
  obtain ⟨rfl, rfl⟩ := Prod.mk.inj e2
  obtain ⟨⟨f3, s3, c3, q3⟩, h3, e3⟩ := Option.map_eq_some_iff.mp e2'
  obtain ⟨e3, e3'⟩ := Prod.mk.inj e3
  obtain ⟨rfl, e3⟩ := Prod.mk.inj e3
  obtain ⟨rfl, rfl⟩ := Prod.mk.inj e3
  obtain ⟨s4, h4, e4⟩ := Option.map_eq_some_iff.mp e3'
  have h3' := segRun_of h3
  rw [toT_abs hz] at h3'
  have h4' : topRun treeTable p w m₀ ann (k3 + k4) s2 (restOf (behindTheImports p ++ []) env (body p env) _ [topFrame fp]) = some s4 := piece_app h3' h4
  rw [List.append_nil] at h4'
  have r := topRun_mono (N - (k1 + (k2 + (k3 + k4)))) _ _ _ _ (go_top h1 (piece_block h2 h4'))
  rw [show k1 + (k2 + (k3 + k4)) + (N - (k1 + (k2 + (k3 + k4)))) = N by have := Nat.le_of_ble_eq_true le; omega] at r
  obtain ⟨l1, l2⟩ := Prod.mk.inj e4
  have t : topFrom treeTable p w N ⟨boot_heap w.params, Array.mk [], boot_drawn, boot_toks, os⟩ = some s4 := by
    unfold topFrom
    dsimp only
    rw [z1, z2, z3, r]
    dsimp only [Option.bind_some]
    rw [l1]
  unfold openEnds
  rw [a0]
  show (topFrom treeTable p w N _).map _ = _
  rw [t]
  exact congrArg some l2
end Hd

/-! the head in several goes: for texts whose run is too long for one. -/
namespace Hd
open PySem PySem.W PySem.Calls PyProof.Rows

end Hd
namespace Hd
open PySem PySem.W PySem.Calls PyProof.Rows
end Hd

namespace L2
open PySem PySem.Spec PyProof.Rows

/-! ### lists of pairs as tables -/
section
variable {κ : Type} [DecidableEq κ]
def valV (kvs : List (κ × V)) (k : κ) : Option V := (kvs.find? fun kv => decide (kv.1 = k)).map (·.2)
theorem valV_nil {k : κ} : valV ([] : List (κ × V)) k = none := rfl
end


/-! ### a tracked dict, its keys ints and texts or tuples of these -/
abbrev KT (H : Hp) : List (List Key × V) → List (List Key × Addr × Value) → Prop := Paired fun p q => p.1 = q.1 ∧ H q.2.1 = some (.tup (p.1.map kV)) ∧ RelV p.2 q.2.2
section
variable {P : Program} {w : World} {H : Hp} {h : Heap} {a : Addr}
end

section
variable {X : Cx} {pins : List (Addr × Obj)} {σ : St} {H : Hp} {s : Shared} {a : Addr} {y v : V} {u r : Value} {o : Option V} {A : Around} {E : Value → Shared → Prop}

end

section
variable {X : Cx} {pins : List (Addr × Obj)} {σ : St} {H : Hp} {s : Shared} {a : Addr} {kvs : List (Key × V)} {k : Key} {u : Value} {A : Around} {E : Value → Shared → Prop}
end


/-! ### readings and rules -/
section
variable {X : Cx} {o i e value : Expr} {pos pos' tpos : Pos} {td ty tv : TE}
end


/-! ### displays -/
section
variable {X : Cx} {pos : Pos}
end

def tPairs : List (TE × TE) → St → Hp → (List (V × V) → Hp → Prop) → Prop
  | [], _, H, Q => Q [] H
  | (tk, tv) :: r, σ, H, Q => tk σ H fun x H1 => tv σ H1 fun y H2 => tPairs r σ H2 fun ps H3 => Q ((x, y) :: ps) H3
/-! ### methods -/
section
variable {X : Cx} {pins : List (Addr × Obj)} {σ : St} {H : Hp} {s : Shared} {a : Addr} {y d : V} {u r : Value} {o : Option V} {A : Around} {E : Value → Shared → Prop}
end

section
variable {X : Cx} {o e f : Expr} {apos cpos : Pos} {td ty tx : TE}
end

/-! ### dict(d): a copy -/
section
variable {X : Cx} {pins : List (Addr × Obj)} {σ : St} {H : Hp} {s : Shared} {a : Addr} {kvs : List (Key × V)} {A : Around} {E : Value → Shared → Prop}
end


section
variable {X : Cx} {pins : List (Addr × Obj)} {σ : St} {H : Hp} {s : Shared} {a : Addr} {y : V} {u : Value} {A : Around} {E : Value → Shared → Prop}
end
section
variable {X : Cx}
end
/-! ### a dict's pairs: keys that differ -/
section
variable {κ : Type} [DecidableEq κ]
theorem nd_snoc : ∀ {l : List κ} {k : κ}, l.Nodup → ¬ k ∈ l → (l ++ [k]).Nodup
  | [], k, _, _ => by simp
  | a :: r, k, h, hk => by
    obtain ⟨h1, h2⟩ := List.nodup_cons.mp h
    show (a :: (r ++ [k])).Nodup
    refine List.nodup_cons.mpr ⟨fun m => ?_, nd_snoc h2 fun m => hk (List.mem_cons.mpr (Or.inr m))⟩
    rcases List.mem_append.mp m with q | q
    · exact h1 q
    · exact hk (List.mem_cons.mpr (Or.inl (List.mem_singleton.mp q).symm))
end
end L2


/-! Own additions to the hand layer: slices of texts, unpacking a list, isinstance, calls by a bundle. -/
namespace L3
open PySem PySem.Spec PyProof.Rows L2
theorem bt_len : bootBuiltins "len" = some (.builtin "len") := by decide +kernel
theorem bt_min : bootBuiltins "min" = some (.builtin "min") := by decide +kernel
theorem bt_max : bootBuiltins "max" = some (.builtin "max") := by decide +kernel
theorem bt_isinstance : bootBuiltins "isinstance" = some (.builtin "isinstance") := by decide +kernel
theorem bt_int : bootBuiltins "int" = some (.type "int") := by decide +kernel
theorem bt_str : bootBuiltins "str" = some (.type "str") := by decide +kernel
theorem bt_bool : bootBuiltins "bool" = some (.type "bool") := by decide +kernel
theorem bt_list : bootBuiltins "list" = some (.type "list") := by decide +kernel
theorem bt_tuple : bootBuiltins "tuple" = some (.type "tuple") := by decide +kernel

/-! ### texts as lists of codes -/
abbrev cl (z : Str) : List Nat := z.cps.toList
theorem str_ext {a b : Str} (h : cl a = cl b) : a = b := by
  cases a; cases b; congr 1; exact Array.ext' h
theorem cl_append (a b : Str) : cl (a ++ b) = cl a ++ cl b := by
  show (a.cps ++ b.cps).toList = _
  rw [Array.toList_append]
theorem cl_length (a : Str) : (cl a).length = a.length := by
  show a.cps.toList.length = a.cps.size
  rw [Array.length_toList]
theorem cl_slice (z : Str) (lo hi : Option Int) : cl (Txt.slice z lo hi) = ((cl z).drop (HT.sIx z.length 0 lo)).take (HT.sIx z.length z.length hi - HT.sIx z.length 0 lo) := by
  have e : Builtin.Str.strSliceIndices lo hi 1 z.length = sliceRange (sliceBounds lo hi none z.length).1 (sliceBounds lo hi none z.length).2.1 1 := by
    cases lo <;> cases hi <;> rfl
  obtain ⟨h1, h2, _⟩ := slice_bounds lo hi z.length
  have p : (Builtin.Str.strSliceIndices lo hi 1 z.length).filterMap (z.cps[·]?) = ((cl z).drop (HT.sIx z.length 0 lo)).take (HT.sIx z.length z.length hi - HT.sIx z.length 0 lo) := by
    rw [e, h1, h2, sliceRange_one, pick_run]
  unfold Txt.slice
  split
  · rename_i hc
    have hl : (Builtin.Str.strSliceIndices lo hi 1 z.length).length = z.length := by
      simpa using hc
    rw [e, h1, h2, sliceRange_one, List.length_map, List.length_range] at hl
    have b1 := HT.sIx_le z.length 0 (Nat.zero_le _) lo
    have b2 := HT.sIx_le z.length z.length (Nat.le_refl _) hi
    by_cases h0 : z.length = 0
    · have : cl z = [] := List.eq_nil_of_length_eq_zero (by rw [cl_length]; exact h0)
      rw [this]; simp
    · have a0 : HT.sIx z.length 0 lo = 0 := by omega
      have aN : HT.sIx z.length z.length hi = z.length := by omega
      rw [a0, aN, List.drop_zero, Nat.sub_zero, ← cl_length, List.take_length]
  · exact p

section
variable {X : Cx}
def rSlS : V → Option Int → Option Int → Hp → VK → Prop := fun x lo hi H Q => ∃ z, x = .str z ∧ z.length ≤ sizeLine ∧ Q (.str (Txt.slice z lo hi)) H
theorem part_of {v : Value} {o : Option Int} (p : IsPart v o) : ∃ l : Option (Int × Tok), v = partValue l ∧ l.map (·.1) = o := by
  cases p with
  | none => exact ⟨none, rfl, rfl⟩
  | int i t => exact ⟨some (i, t), rfl, rfl⟩
theorem sl_str : SlR X rSlS := by
  intro pins s σ H x v vl vu lo hi sl Q I rx hs pl pu h
  obtain ⟨z, rfl, hz, q⟩ := h
  obtain ⟨t, rfl⟩ := rx
  obtain ⟨l, rfl, rfl⟩ := part_of pl
  obtain ⟨u, rfl, rfl⟩ := part_of pu
  refine ⟨"str", _, PySem.F.slot_str_getitem.lookup, typeIs_str _ _ _, ?_⟩
  refine wpAny_getItem_str_slice (l := l) (u := u) (st := none) hs rfl ?_
  refine post_val_or_str ⟨Nat.le_trans (Txt.slice_le z _ _) hz, fun t' k => ?_⟩
  exact ⟨.str (Txt.slice z (l.map (·.1)) (u.map (·.1))), H, I.tok _, ⟨_, rfl⟩, q⟩

theorem pe_ty {x : Str} {T : String} {pos : Pos} (hg : Gl X x) (hm : X.mg x = none) (hv : bootBuiltins x = some (.type T)) (hn : x ≠ "__name__" := by decide) (hdb : (x == ("__debug__" : Str)) = false := by decide) :
    PE X (.Name x pos) (tC (.ty T)) := pe_bltn (v := .ty T) hg hm hv rfl hn hdb
theorem call_isinst : CallR X (.builtin "isinstance") (fun xs H Q => ∃ x T t b, xs = [x, .ty T] ∧ TyOf X.K H x t ∧ PySem.W.kitOne X.K t (.type T) = some b ∧ Q (.bl b) H) := by
  intro pins s σ H xs us Q I r h
  obtain ⟨x, T, t, b, rfl, ty, e, q⟩ := h
  obtain ⟨u, w', rfl, rx, rt⟩ := vals2 r
  cases rt
  exact isinst_ok I rx ty e fun tk => ⟨.bl b, H, I.tok _, rfl, q⟩
theorem is_str {K : PySem.W.Frag} : PySem.W.kitOne K (.type "str") (.type "str") = some true := rfl
/-! ### an own def as a caller sees it -/
def Cal (P : Program) (w : World) (K : PySem.W.Frag) (mg : Str → Option Value) (base : Heap) (x : Str) (ps : List Str) (k : Nat) (sp : Sp) : Prop :=
  ∃ f fd, FnOk P w K mg base CX0 k f fd ps sp ∧ Binds K fd ps [] ∧ PySem.W.keepIn K (.ref f) = true ∧ mg x = some (.ref f)
def tFn (sp : Sp) (t : TA) : TE := fun σ H Q => t σ H fun vs H1 => sp vs H1 Q E0
theorem pe_fn {x : Str} {ps : List Str} {k k' : Nat} {sp : Sp} {p pos : Pos} {e : Expr} {es : List Expr} {t : TA} (C : Cal X.prog X.w X.K X.mg X.base x ps k sp) (hr : Room k' X.A) (hk : k ≤ k') (hg : Gl X x)
    (ha : PA X (e :: es) t) (hdb : (x == ("__debug__" : Str)) = false := by decide) (he : starEach (e :: es) X.env = (false, eval e X.env) :: starEach es X.env := by rfl) (hpl : (backTo pos (starEach es X.env)).any (·.1) = false := by rfl) :
    PE X (.Call (.Name x p) (e :: es) [] pos) (tFn sp t) := by
  obtain ⟨f, fd, F, b, kp, hm⟩ := C
  intro pins s σ H Q I h
  refine wpAny_Call_Name_kw (ld_glob I hg hm ?_ hdb)
  refine PySem.W.callWith_K (h₀ := X.base) I.ok.mod.kin kp (thn (ha pos pins s σ H _ I h) fun us s1 ⟨vs, H1, I1, r, q⟩ => ⟨I1.kIn, ?_⟩) he hpl
  exact run_fn (dvs := []) F (hr.mono hk) b .nil pass0 I1 r (by rw [List.append_nil]; exact q)
end
/-! ### a cut: what holds behind a statement, a value that is forgotten but for a word -/
section
variable {X : Cx}
def tMid (t u : TS) : TS := fun D σ H => ∃ M : L2.St → Hp → Prop, t { D with nx := M } σ H ∧ ∀ σ' H', M σ' H' → u D σ' H'
theorem pss_mid {st : Stmt} {rest : List Stmt} {t u : TS} (h1 : PS X st t) (h2 : PSs X rest u) : PSs X (st :: rest) (tMid t u) := by
  intro pins s σ H D I h
  obtain ⟨M, ht, hu⟩ := h
  refine wpAny_execs_cons (thn (h1 pins s σ H { D with nx := M } I ht) fun f s1 q => ?_)
  cases f with
  | next =>
    obtain ⟨σ', H', I', q⟩ := q
    exact h2 pins s1 σ' H' D I' (hu σ' H' q)
  | ret v => exact q
  | brk => exact q
  | cont => exact q
def tAbs (t : TE) : TE := fun σ H Q => ∃ P : V → Hp → Prop, t σ H P ∧ ∀ v H', P v H' → Q v H'
theorem pe_abs {e : Expr} {t : TE} (h : PE X e t) : PE X e (tAbs t) := by
  intro pins s σ H Q I hw
  obtain ⟨P, ht, hq⟩ := hw
  exact thn (h pins s σ H P I ht) fun u s1 ⟨v, H1, I1, r1, q1⟩ => ⟨v, H1, I1, r1, hq v H1 q1⟩
def tAbsT (t : TT) : TT := fun σ H Q => ∃ P : Bool → Hp → Prop, t σ H P ∧ ∀ v H', P v H' → Q v H'
theorem pt_abs {e : Expr} {t : TT} (h : PT X e t) : PT X e (tAbsT t) := by
  intro pins s σ H Q I hw
  obtain ⟨P, ht, hq⟩ := hw
  exact thn (h pins s σ H P I ht) fun u s1 ⟨H1, I1, q1⟩ => ⟨H1, I1, hq u H1 q1⟩
def rPick (K : PySem.W.Frag) : R2 := fun x y H Q => ∃ p xs i, x = .ref p ∧ y = .int i ∧ SqL K H p xs ∧ 0 ≤ i ∧ i < xs.length ∧ ∃ W : V → Prop, (∀ v ∈ xs, W v) ∧ ∀ v, W v → Q v H
theorem ix_pick : IxR X (rPick X.K) := by
  intro value slice pins s σ H x y v u Q I rx ry h hs
  obtain ⟨p, xs, i, rfl, rfl, hq, h0, h1, W, hW, q⟩ := h
  obtain ⟨n, rfl⟩ := Int.eq_ofNat_of_zero_le h0
  have hn : n < xs.length := by omega
  exact ix_list value slice pins s σ H _ _ v u Q I rx ry ⟨p, xs, _, xs[n], rfl, rfl, hq, atI_nat (by rw [List.getElem?_eq_getElem hn]), q _ (hW _ (List.getElem_mem hn))⟩ hs
end
theorem pz {j : Int} (h : decide (0 < j) = true := by decide) : 0 < j := of_decide_eq_true h
theorem iteD {c A B : Prop} [Decidable c] (hc : ¬ c) (h : B) : if decide c = true then A else B := by
  rw [decide_eq_false hc]
  exact iteF h
theorem iteDT {c A B : Prop} [Decidable c] (hc : c) (h : A) : if decide c = true then A else B := by
  rw [decide_eq_true hc]
  exact iteT h
theorem iteDd {c A B : Prop} [Decidable c] (h1 : c → A) (h2 : ¬ c → B) : if decide c = true then A else B := by
  by_cases h : c
  · exact iteDT h (h1 h)
  · exact iteD h (h2 h)
theorem iteNd {c A B : Prop} [Decidable c] (h1 : ¬ c → A) (h2 : c → B) : if (!decide c) = true then A else B := by
  by_cases h : c
  · rw [decide_eq_true h]; exact iteF (h2 h)
  · rw [decide_eq_false h]; exact iteT (h1 h)
theorem same_new {H : Hp} {p : Addr} (h : H p = none) (o : HO) : Same H (upd H p o) := fun b u q => by rw [upd_ne (ne_of_none q h)]; exact q
theorem at_mem {α : Type} {xs : List α} {i : Int} (h0 : 0 ≤ i) (h1 : i < xs.length) : ∃ v, atI xs i = some v ∧ v ∈ xs := by
  obtain ⟨n, rfl⟩ := Int.eq_ofNat_of_zero_le h0
  have hn : n < xs.length := by omega
  exact ⟨xs[n], atI_nat (by rw [List.getElem?_eq_getElem hn]), List.getElem_mem hn⟩
theorem at_some {α : Type} {xs : List α} {i : Int} (h0 : 0 ≤ i) (h1 : i < xs.length) : ∃ v, atI xs i = some v ∧ xs[i.toNat]? = some v := by
  obtain ⟨n, rfl⟩ := Int.eq_ofNat_of_zero_le h0
  have hn : n < xs.length := by omega
  exact ⟨xs[n], atI_nat (by rw [List.getElem?_eq_getElem hn]), by simp [hn]⟩
theorem szl {n : Nat} (h : n ≤ 100000) : n ≤ sizeLine := Nat.le_trans h (by rw [sizeLine_eq]; decide)
end L3

/-! Deep data: what a value stands for (numbers, texts, tuples and lists within one another), and == and in over it. -/
namespace L3
open PySem PySem.Spec PyProof.Rows L2 PySem.SeqAt

inductive D where
  | non | bl (b : Bool) | int (i : Int) | str (x : Str) | tup (xs : List D) | lst (xs : List D)

mutual
def Rep (K : PySem.W.Frag) (H : Hp) : D → V → Prop
  | .non, v => v = .non
  | .bl b, v => v = .bl b
  | .int i, v => v = .int i
  | .str x, v => v = .str x
  | .tup ds, v => ∃ a xs, v = .ref a ∧ SqT K H a xs ∧ Reps K H ds xs
  | .lst ds, v => ∃ a xs, v = .ref a ∧ SqL K H a xs ∧ Reps K H ds xs
def Reps (K : PySem.W.Frag) (H : Hp) : List D → List V → Prop
  | [], vs => vs = []
  | d :: ds, vs => ∃ v r, vs = v :: r ∧ Rep K H d v ∧ Reps K H ds r
end
theorem Same.seqT {K : PySem.W.Frag} {H H' : Hp} {a : Addr} {xs : List V} (e : Same H H') (h : SqT K H a xs) : SqT K H' a xs := by
  rcases h with (h | ⟨o, h⟩) | h
  · exact .inl (.inl (e _ _ h))
  · exact .inl (.inr ⟨o, e _ _ h⟩)
  · exact .inr h
mutual
theorem Rep.mono {K : PySem.W.Frag} {H H' : Hp} (g : Same H H') : ∀ (d : D) (v : V), Rep K H d v → Rep K H' d v
  | .non, _, h => by unfold Rep at h ⊢; exact h
  | .bl _, _, h => by unfold Rep at h ⊢; exact h
  | .int _, _, h => by unfold Rep at h ⊢; exact h
  | .str _, _, h => by unfold Rep at h ⊢; exact h
  | .tup ds, _, h => by
    unfold Rep at h ⊢
    obtain ⟨a, xs, e, q, r⟩ := h
    exact ⟨a, xs, e, Same.seqT g q, Reps.mono g ds xs r⟩
  | .lst ds, _, h => by
    unfold Rep at h ⊢
    obtain ⟨a, xs, e, q, r⟩ := h
    exact ⟨a, xs, e, g.seq q, Reps.mono g ds xs r⟩
theorem Reps.mono {K : PySem.W.Frag} {H H' : Hp} (g : Same H H') : ∀ (ds : List D) (vs : List V), Reps K H ds vs → Reps K H' ds vs
  | [], _, h => by unfold Reps at h ⊢; exact h
  | d :: ds, _, h => by
    unfold Reps at h ⊢
    obtain ⟨v, r, e, q, t⟩ := h
    exact ⟨v, r, e, Rep.mono g d v q, Reps.mono g ds r t⟩
end
theorem Reps.nil {K : PySem.W.Frag} {H : Hp} : Reps K H [] [] := by unfold Reps; rfl
theorem Reps.cons {K : PySem.W.Frag} {H : Hp} {d : D} {v : V} {ds : List D} {vs : List V} (h : Rep K H d v) (t : Reps K H ds vs) : Reps K H (d :: ds) (v :: vs) := by
  unfold Reps; exact ⟨v, vs, rfl, h, t⟩
theorem Reps.inv {K : PySem.W.Frag} {H : Hp} {d : D} {ds : List D} {vs : List V} (h : Reps K H (d :: ds) vs) : ∃ v r, vs = v :: r ∧ Rep K H d v ∧ Reps K H ds r := by
  unfold Reps at h; exact h
theorem Reps.inv0 {K : PySem.W.Frag} {H : Hp} {vs : List V} (h : Reps K H [] vs) : vs = [] := by
  unfold Reps at h; exact h
theorem Reps.length {K : PySem.W.Frag} {H : Hp} : ∀ {ds : List D} {vs : List V}, Reps K H ds vs → ds.length = vs.length
  | [], _, h => by rw [h.inv0]; rfl
  | d :: ds, _, h => by
    obtain ⟨v, r, rfl, _, t⟩ := h.inv
    rw [List.length_cons, List.length_cons, Reps.length t]
theorem Reps.get {K : PySem.W.Frag} {H : Hp} : ∀ {ds : List D} {vs : List V} {j : Nat} {d : D}, Reps K H ds vs → ds[j]? = some d → ∃ v, vs[j]? = some v ∧ Rep K H d v
  | [], _, _, _, _, e => by simp at e
  | d :: ds, _, 0, x, h, e => by
    obtain ⟨v, r, rfl, q, t⟩ := h.inv
    simp at e; subst e
    exact ⟨v, rfl, q⟩
  | d :: ds, _, j + 1, x, h, e => by
    obtain ⟨v, r, rfl, q, t⟩ := h.inv
    obtain ⟨u, e1, e2⟩ := Reps.get (j := j) (d := x) t (by simpa using e)
    exact ⟨u, by simpa using e1, e2⟩
/-! ### Python's == -/
mutual
def eqD : D → D → Bool
  | .non, .non => true
  | .bl a, .bl b => a == b
  | .bl a, .int b => (if a then 1 else 0) == b
  | .int a, .bl b => a == (if b then 1 else 0)
  | .int a, .int b => a == b
  | .str a, .str b => a == b
  | .tup xs, .tup ys => eqDs xs ys
  | .lst xs, .lst ys => eqDs xs ys
  | _, _ => false
def eqDs : List D → List D → Bool
  | [], [] => true
  | x :: xs, y :: ys => eqD x y && eqDs xs ys
  | _, _ => false
end
mutual
def deep : D → Nat
  | .tup xs => deeps xs + 1
  | .lst xs => deeps xs + 1
  | _ => 0
def deeps : List D → Nat
  | [] => 0
  | x :: xs => max (deep x) (deeps xs)
end
mutual
theorem eqD_refl : ∀ d : D, eqD d d = true
  | .non => by simp [eqD]
  | .bl b => by simp [eqD]
  | .int i => by simp [eqD]
  | .str x => by simp [eqD]
  | .tup xs => by rw [eqD]; exact eqDs_refl xs
  | .lst xs => by rw [eqD]; exact eqDs_refl xs
theorem eqDs_refl : ∀ xs : List D, eqDs xs xs = true
  | [] => by simp [eqDs]
  | x :: xs => by rw [eqDs, eqD_refl x, eqDs_refl xs]; rfl
end
/-! no truths within -/
mutual
def noB : D → Bool
  | .bl _ => false
  | .tup xs => noBs xs
  | .lst xs => noBs xs
  | _ => true
def noBs : List D → Bool
  | [] => true
  | x :: xs => noB x && noBs xs
end
mutual
theorem eqD_eq : ∀ d e : D, noB d = true → noB e = true → eqD d e = true → d = e
  | .non, e, _, h2, h => by cases e <;> simp_all [eqD]
  | .bl b, e, h1, _, _ => by simp [noB] at h1
  | .int i, e, _, h2, h => by cases e <;> simp_all [eqD, noB]
  | .str x, e, _, h2, h => by cases e <;> simp_all [eqD]
  | .tup xs, e, h1, h2, h => by
    cases e <;> simp only [eqD, noB, Bool.false_eq_true] at h1 h2 h
    rw [eqDs_eq _ _ h1 h2 h]
  | .lst xs, e, h1, h2, h => by
    cases e <;> simp only [eqD, noB, Bool.false_eq_true] at h1 h2 h
    rw [eqDs_eq _ _ h1 h2 h]
theorem eqDs_eq : ∀ xs ys : List D, noBs xs = true → noBs ys = true → eqDs xs ys = true → xs = ys
  | [], ys, _, _, h => by cases ys <;> simp_all [eqDs]
  | x :: xs, ys, h1, h2, h => by
    cases ys with
    | nil => simp [eqDs] at h
    | cons y ys =>
      simp only [eqDs, noBs, Bool.and_eq_true] at h1 h2 h
      rw [eqD_eq x y h1.1 h2.1 h.1, eqDs_eq xs ys h1.2 h2.2 h.2]
end
def pickEq (xs ys : List D) (j : Nat) : Bool := match xs[j]?, ys[j]? with
  | some x, some y => eqD x y
  | _, _ => false
theorem eqDs_all : ∀ xs ys : List D, eqDs xs ys = ((List.range (min xs.length ys.length)).all (pickEq xs ys) && (xs.length == ys.length))
  | [], [] => by simp [eqDs]
  | [], y :: ys => by simp [eqDs]
  | x :: xs, [] => by simp [eqDs]
  | x :: xs, y :: ys => by
    have ih := eqDs_all xs ys
    have e : min (x :: xs).length (y :: ys).length = min xs.length ys.length + 1 := by simp only [List.length_cons]; omega
    have p : pickEq (x :: xs) (y :: ys) ∘ Nat.succ = pickEq xs ys := by
      funext j; simp [pickEq]
    rw [eqDs, e, List.range_succ_eq_map, List.all_cons, List.all_map, p, ih]
    have q : pickEq (x :: xs) (y :: ys) 0 = eqD x y := by simp [pickEq]
    have l : ((x :: xs).length == (y :: ys).length) = (xs.length == ys.length) := by
      simp only [List.length_cons]
      by_cases h : xs.length = ys.length <;> simp [h]
    rw [q, l, Bool.and_assoc]

section
variable {X : Cx} {pins : List (Addr × Obj)} {σ : L2.St} {H : Hp} {s : Shared}
/-! a value stands for one datum -/
mutual
theorem Rep.inj (I : Inv X pins σ H s) : ∀ (d e : D) (v : V), Rep X.K H d v → Rep X.K H e v → d = e
  | .non, e, v, h, k => by unfold Rep at h; subst h; cases e <;> simp [Rep] at k <;> rfl
  | .bl b, e, v, h, k => by unfold Rep at h; subst h; cases e <;> simp [Rep] at k; rw [k]
  | .int i, e, v, h, k => by unfold Rep at h; subst h; cases e <;> simp [Rep] at k; rw [k]
  | .str x, e, v, h, k => by unfold Rep at h; subst h; cases e <;> simp [Rep] at k; rw [k]
  | .tup ds, e, v, h, k => by
    unfold Rep at h
    obtain ⟨a, xs, rfl, q, r⟩ := h
    cases e with
    | tup es =>
      unfold Rep at k
      obtain ⟨b, ys, e1, q2, r2⟩ := k
      cases e1
      have := I.tuple_inj q q2
      subst this
      rw [Reps.inj I ds es xs r r2]
    | lst es =>
      unfold Rep at k
      obtain ⟨b, ys, e1, q2, r2⟩ := k
      cases e1
      obtain ⟨i1, _, t1, _⟩ := I.tuple q
      obtain ⟨i2, _, t2, _⟩ := I.list q2
      exact absurd rfl (ne_of_list_tuple t2.isList (let ⟨o, h1, h2, n, h3⟩ := t1; ⟨o, h1, h2, n, h3⟩))
    | _ => simp [Rep] at k
  | .lst ds, e, v, h, k => by
    unfold Rep at h
    obtain ⟨a, xs, rfl, q, r⟩ := h
    cases e with
    | lst es =>
      unfold Rep at k
      obtain ⟨b, ys, e1, q2, r2⟩ := k
      cases e1
      have := I.list_inj q q2
      subst this
      rw [Reps.inj I ds es xs r r2]
    | tup es =>
      unfold Rep at k
      obtain ⟨b, ys, e1, q2, r2⟩ := k
      cases e1
      obtain ⟨i1, _, t1, _⟩ := I.tuple q2
      obtain ⟨i2, _, t2, _⟩ := I.list q
      exact absurd rfl (ne_of_list_tuple t2.isList (let ⟨o, h1, h2, n, h3⟩ := t1; ⟨o, h1, h2, n, h3⟩))
    | _ => simp [Rep] at k
theorem Reps.inj (I : Inv X pins σ H s) : ∀ (ds es : List D) (vs : List V), Reps X.K H ds vs → Reps X.K H es vs → ds = es
  | [], es, vs, h, k => by
    rw [h.inv0] at k
    cases es with
    | nil => rfl
    | cons e es => obtain ⟨_, _, z, _⟩ := k.inv; cases z
  | d :: ds, es, vs, h, k => by
    obtain ⟨v, r, rfl, q, t⟩ := h.inv
    cases es with
    | nil => have z := k.inv0; cases z
    | cons e es =>
      obtain ⟨_, _, z, q2, t2⟩ := k.inv
      cases z
      rw [Rep.inj I d e v q q2, Reps.inj I ds es r t t2]
end
end
end L3

/-! == and != and in over deep data. -/
namespace L3
open PySem PySem.Spec PyProof.Rows L2 PySem.SeqAt
section
variable {X : Cx} {pins : List (Addr × Obj)} {σ : L2.St} {H : Hp} {s : Shared} {A : Around}
theorem in1_units (A : Around) : A.in1.units = A.units + 1 := rfl
abbrev Elts (A : Around) (s : Shared) (xs ys : List V) (ds es : List D) : Prop :=
  ∀ us ws, Vals xs us → Vals ys ws → ∀ (j : Nat) v u, us[j]? = some v → ws[j]? = some u → EqAt A s v u (pickEq ds es j)
theorem rc_tup {a b : Addr} {xs ys : List V} {ds es : List D} (I : Inv X pins σ H s) (q : SqT X.K H a xs) (r : Reps X.K H ds xs) (q2 : SqT X.K H b ys) (r2 : Reps X.K H es ys) (hu : A.units < cLine) (he : Elts A.in1 s xs ys ds es) :
    RcAt A s (.ref a) (.ref b) (eqDs ds es) ∧ RcNeAt A s (.ref a) (.ref b) (!eqDs ds es) := by
  obtain ⟨us, rv, t1, _⟩ := I.tuple q
  obtain ⟨ws, rw', t2, _⟩ := I.tuple q2
  have l1 : us.toArray.size = ds.length := by rw [List.size_toArray, ← rv.length, r.length]
  have l2 : ws.toArray.size = es.length := by rw [List.size_toArray, ← rw'.length, r2.length]
  have el : ∀ j (h1 : j < us.toArray.size) (h2 : j < ws.toArray.size), EqAt A.in1 s us.toArray[j] ws.toArray[j] (pickEq ds es j) := fun j h1 h2 =>
    he us ws rv rw' j _ _ (by simp at h1 ⊢) (by simp at h2 ⊢)
  have e := RcAt.tuples (A := A) (s := s) (l := a) (b := b) t1 t2 hu el
  have n := RcNeAt.tuples (A := A) (s := s) (l := a) (b := b) t1 t2 hu el
  rw [l1, l2, ← eqDs_all] at e n
  exact ⟨e, n⟩
theorem rc_lst {a b : Addr} {xs ys : List V} {ds es : List D} (I : Inv X pins σ H s) (q : SqL X.K H a xs) (r : Reps X.K H ds xs) (q2 : SqL X.K H b ys) (r2 : Reps X.K H es ys) (hu : A.units < cLine) (he : Elts A.in1 s xs ys ds es) :
    RcAt A s (.ref a) (.ref b) (eqDs ds es) ∧ RcNeAt A s (.ref a) (.ref b) (!eqDs ds es) := by
  obtain ⟨us, rv, t1, _⟩ := I.list q
  obtain ⟨ws, rw', t2, _⟩ := I.list q2
  have l1 : us.toArray.size = ds.length := by rw [List.size_toArray, ← rv.length, r.length]
  have l2 : ws.toArray.size = es.length := by rw [List.size_toArray, ← rw'.length, r2.length]
  have el : ∀ j (h1 : j < us.toArray.size) (h2 : j < ws.toArray.size), EqAt A.in1 s us.toArray[j] ws.toArray[j] (pickEq ds es j) := fun j h1 h2 =>
    he us ws rv rw' j _ _ (by simp at h1 ⊢) (by simp at h2 ⊢)
  by_cases hl : ds.length = es.length
  · have e := RcAt.lists (A := A) (s := s) (l := a) (b := b) t1.isList t2.isList (by omega) hu el
    have n := RcNeAt.lists (A := A) (s := s) (l := a) (b := b) t1.isList t2.isList (by omega) hu el
    have z : eqDs ds es = (List.range ds.length).all (pickEq ds es) := by
      rw [eqDs_all, hl]; simp
    rw [l1, ← z] at e n
    exact ⟨e, n⟩
  · have hs : (us.toArray.size != ws.toArray.size) = true := by rw [l1, l2]; simpa using hl
    have e := RcAt.lists_lengths (A := A) (s := s) (l := a) (b := b) t1.isList t2.isList hs hu
    have n := RcNeAt.lists_lengths (A := A) (s := s) (l := a) (b := b) t1.isList t2.isList hs hu
    have z : eqDs ds es = false := by
      rw [eqDs_all]; simp [hl]
    rw [z]
    exact ⟨e, n⟩
mutual
theorem eqAtD (I : Inv X pins σ H s) : ∀ (d e : D) (A : Around) (v u : V) (v' u' : Value), Rep X.K H d v → Rep X.K H e u → RelV v v' → RelV u u' → A.units + deep d < cLine → EqAt A s v' u' (eqD d e)
  | .non, e, A, v, u, v', u', hd, he, rv, ru, hu => by
    unfold Rep at hd; subst hd; cases rv
    cases e <;> unfold Rep at he
    · subst he; cases ru; exact EqAt.same _
    · subst he; cases ru; exact EqAt.none_bool _
    · subst he; obtain ⟨t, rfl⟩ := ru; exact EqAt.none_int _ _
    · subst he; obtain ⟨t, rfl⟩ := ru; exact EqAt.none_str _ _
    · obtain ⟨a, xs, rfl, q, _⟩ := he; cases ru; obtain ⟨_, _, t, _⟩ := I.tuple q; exact EqAt.none_tuple t (by omega)
    · obtain ⟨a, xs, rfl, q, _⟩ := he; cases ru; obtain ⟨_, _, t, _⟩ := I.list q; exact EqAt.none_list t.isList (by omega)
  | .bl b, e, A, v, u, v', u', hd, he, rv, ru, hu => by
    unfold Rep at hd; subst hd; cases rv
    cases e <;> unfold Rep at he
    · subst he; cases ru; exact EqAt.bool_none _
    · subst he; cases ru; exact EqAt.bool_bool _ _
    · subst he; obtain ⟨t, rfl⟩ := ru; exact EqAt.bool_int _ _ _
    · subst he; obtain ⟨t, rfl⟩ := ru; exact EqAt.bool_str _ _ _
    · obtain ⟨a, xs, rfl, q, _⟩ := he; cases ru; obtain ⟨_, _, t, _⟩ := I.tuple q; exact EqAt.bool_tuple _ t (by omega)
    · obtain ⟨a, xs, rfl, q, _⟩ := he; cases ru; obtain ⟨_, _, t, _⟩ := I.list q; exact EqAt.bool_list _ t.isList (by omega)
  | .int i, e, A, v, u, v', u', hd, he, rv, ru, hu => by
    unfold Rep at hd; subst hd; obtain ⟨t0, rfl⟩ := rv
    cases e <;> unfold Rep at he
    · subst he; cases ru; exact EqAt.int_none _ _
    · subst he; cases ru; exact EqAt.int_bool _ _ _
    · subst he; obtain ⟨t, rfl⟩ := ru; exact EqAt.int_int _ _ _ _
    · subst he; obtain ⟨t, rfl⟩ := ru; exact EqAt.int_str _ _ _ _
    · obtain ⟨a, xs, rfl, q, _⟩ := he; cases ru; obtain ⟨_, _, t, _⟩ := I.tuple q; exact EqAt.int_tuple _ _ t (by omega)
    · obtain ⟨a, xs, rfl, q, _⟩ := he; cases ru; obtain ⟨_, _, t, _⟩ := I.list q; exact EqAt.int_list _ _ t.isList (by omega)
  | .str x, e, A, v, u, v', u', hd, he, rv, ru, hu => by
    unfold Rep at hd; subst hd; obtain ⟨t0, rfl⟩ := rv
    cases e <;> unfold Rep at he
    · subst he; cases ru; exact EqAt.str_none _ _
    · subst he; cases ru; exact EqAt.str_bool _ _ _
    · subst he; obtain ⟨t, rfl⟩ := ru; exact EqAt.str_int _ _ _ _
    · subst he; obtain ⟨t, rfl⟩ := ru; exact EqAt.str_str _ _ _ _
    · obtain ⟨a, xs, rfl, q, _⟩ := he; cases ru; obtain ⟨_, _, t, _⟩ := I.tuple q; exact EqAt.str_tuple _ _ t (by omega)
    · obtain ⟨a, xs, rfl, q, _⟩ := he; cases ru; obtain ⟨_, _, t, _⟩ := I.list q; exact EqAt.str_list _ _ t.isList (by omega)
  | .tup ds, e, A, v, u, v', u', hd, he, rv, ru, hu => by
    have hd0 := hd
    have he0 := he
    unfold Rep at hd
    obtain ⟨a, xs, rfl, q, r⟩ := hd
    cases rv
    rw [deep] at hu
    obtain ⟨_, _, t0, _⟩ := I.tuple q
    cases e <;> unfold Rep at he
    · subst he; cases ru; exact EqAt.tuple_none t0 (by omega)
    · subst he; cases ru; exact EqAt.tuple_bool _ t0 (by omega)
    · subst he; obtain ⟨t, rfl⟩ := ru; exact EqAt.tuple_int _ _ t0 (by omega)
    · subst he; obtain ⟨t, rfl⟩ := ru; exact EqAt.tuple_str _ _ t0 (by omega)
    · rename_i es
      obtain ⟨b, ys, rfl, q2, r2⟩ := he
      cases ru
      by_cases hab : a = b
      · subst hab
        rw [Rep.inj I _ _ _ hd0 he0, eqD_refl]
        exact EqAt.same _
      · rw [eqD]
        exact EqAt.of_refs hab (rc_tup I q r q2 r2 (by omega) fun us ws w1 w2 j v u e1 e2 => eqAtDs I ds es A.in1 xs ys us ws r r2 w1 w2 (by rw [in1_units]; omega) j v u e1 e2).1
    · obtain ⟨b, ys, rfl, q2, r2⟩ := he
      cases ru
      obtain ⟨_, _, t, _⟩ := I.list q2
      exact EqAt.tuple_list t0 t.isList (by omega)
  | .lst ds, e, A, v, u, v', u', hd, he, rv, ru, hu => by
    have hd0 := hd
    have he0 := he
    unfold Rep at hd
    obtain ⟨a, xs, rfl, q, r⟩ := hd
    cases rv
    rw [deep] at hu
    obtain ⟨_, _, t0, _⟩ := I.list q
    cases e <;> unfold Rep at he
    · subst he; cases ru; exact EqAt.list_none t0.isList (by omega)
    · subst he; cases ru; exact EqAt.list_bool _ t0.isList (by omega)
    · subst he; obtain ⟨t, rfl⟩ := ru; exact EqAt.list_int _ _ t0.isList (by omega)
    · subst he; obtain ⟨t, rfl⟩ := ru; exact EqAt.list_str _ _ t0.isList (by omega)
    · obtain ⟨b, ys, rfl, q2, r2⟩ := he
      cases ru
      obtain ⟨_, _, t, _⟩ := I.tuple q2
      exact EqAt.list_tuple t0.isList t (by omega)
    · rename_i es
      obtain ⟨b, ys, rfl, q2, r2⟩ := he
      cases ru
      by_cases hab : a = b
      · subst hab
        rw [Rep.inj I _ _ _ hd0 he0, eqD_refl]
        exact EqAt.same _
      · rw [eqD]
        exact EqAt.of_refs hab (rc_lst I q r q2 r2 (by omega) fun us ws w1 w2 j v u e1 e2 => eqAtDs I ds es A.in1 xs ys us ws r r2 w1 w2 (by rw [in1_units]; omega) j v u e1 e2).1
theorem eqAtDs (I : Inv X pins σ H s) : ∀ (ds es : List D) (A : Around) (xs ys : List V) (us ws : List Value), Reps X.K H ds xs → Reps X.K H es ys → Vals xs us → Vals ys ws → A.units + deeps ds < cLine →
    ∀ (j : Nat) v u, us[j]? = some v → ws[j]? = some u → EqAt A s v u (pickEq ds es j)
  | [], es, A, xs, ys, us, ws, hd, he, rv, ru, hu, j, v, u, e1, e2 => by
    rw [hd.inv0] at rv; cases rv; simp at e1
  | d :: ds, [], A, xs, ys, us, ws, hd, he, rv, ru, hu, j, v, u, e1, e2 => by
    rw [he.inv0] at ru; cases ru; simp at e2
  | d :: ds, e :: es, A, xs, ys, us, ws, hd, he, rv, ru, hu, j, v, u, e1, e2 => by
    obtain ⟨x, xs, rfl, hx, hxs⟩ := hd.inv
    obtain ⟨y, ys, rfl, hy, hys⟩ := he.inv
    rw [deeps] at hu
    cases rv with
    | cons rv1 rv2 =>
      cases ru with
      | cons ru1 ru2 =>
        cases j with
        | zero =>
          simp at e1 e2
          subst e1 e2
          have p : pickEq (d :: ds) (e :: es) 0 = eqD d e := by simp [pickEq]
          rw [p]
          exact eqAtD I d e A x y _ _ hx hy rv1 ru1 (by omega)
        | succ j =>
          have p : pickEq (d :: ds) (e :: es) (j + 1) = pickEq ds es j := by simp [pickEq]
          rw [p]
          exact eqAtDs I ds es A xs ys _ _ hxs hys rv2 ru2 (by omega) j v u (by simpa using e1) (by simpa using e2)
end
theorem rcD (I : Inv X pins σ H s) (d e : D) {v u : V} {v' u' : Value} (hd : Rep X.K H d v) (he : Rep X.K H e u) (rv : RelV v v') (ru : RelV u u') (hu : A.units + deep d < cLine) : RcAt A s v' u' (eqD d e) ∧ RcNeAt A s v' u' (!eqD d e) := by
  cases d with
  | non =>
    unfold Rep at hd
    subst hd; cases rv
    cases e with
    | non =>
      unfold Rep at he
      subst he; cases ru
      exact ⟨RcAt.none_none , RcNeAt.none_none ⟩
    | bl b1 =>
      unfold Rep at he
      subst he; cases ru
      exact ⟨RcAt.none_bool _ , RcNeAt.none_bool _ ⟩
    | int i1 =>
      unfold Rep at he
      subst he; obtain ⟨t1, rfl⟩ := ru
      exact ⟨RcAt.none_int _ _ , RcNeAt.none_int _ _ ⟩
    | str x1 =>
      unfold Rep at he
      subst he; obtain ⟨t1, rfl⟩ := ru
      exact ⟨RcAt.none_str _ _ , RcNeAt.none_str _ _ ⟩
    | tup es =>
      unfold Rep at he
      obtain ⟨b, ys, rfl, q2, r2⟩ := he
      cases ru
      obtain ⟨_, _, t1, _⟩ := I.tuple q2
      exact ⟨RcAt.none_tuple t1 (by omega), RcNeAt.none_tuple t1 (by omega)⟩
    | lst es =>
      unfold Rep at he
      obtain ⟨b, ys, rfl, q2, r2⟩ := he
      cases ru
      obtain ⟨_, _, t1, _⟩ := I.list q2
      exact ⟨RcAt.none_list t1.isList (by omega), RcNeAt.none_list t1.isList (by omega)⟩
  | bl b0 =>
    unfold Rep at hd
    subst hd; cases rv
    cases e with
    | non =>
      unfold Rep at he
      subst he; cases ru
      exact ⟨RcAt.bool_none _ , RcNeAt.bool_none _ ⟩
    | bl b1 =>
      unfold Rep at he
      subst he; cases ru
      exact ⟨RcAt.bool_bool _ _ , RcNeAt.bool_bool _ _ ⟩
    | int i1 =>
      unfold Rep at he
      subst he; obtain ⟨t1, rfl⟩ := ru
      exact ⟨RcAt.bool_int _ _ _ , RcNeAt.bool_int _ _ _ ⟩
    | str x1 =>
      unfold Rep at he
      subst he; obtain ⟨t1, rfl⟩ := ru
      exact ⟨RcAt.bool_str _ _ _ , RcNeAt.bool_str _ _ _ ⟩
    | tup es =>
      unfold Rep at he
      obtain ⟨b, ys, rfl, q2, r2⟩ := he
      cases ru
      obtain ⟨_, _, t1, _⟩ := I.tuple q2
      exact ⟨RcAt.bool_tuple _ t1 (by omega), RcNeAt.bool_tuple _ t1 (by omega)⟩
    | lst es =>
      unfold Rep at he
      obtain ⟨b, ys, rfl, q2, r2⟩ := he
      cases ru
      obtain ⟨_, _, t1, _⟩ := I.list q2
      exact ⟨RcAt.bool_list _ t1.isList (by omega), RcNeAt.bool_list _ t1.isList (by omega)⟩
  | int i0 =>
    unfold Rep at hd
    subst hd; obtain ⟨t0, rfl⟩ := rv
    cases e with
    | non =>
      unfold Rep at he
      subst he; cases ru
      exact ⟨RcAt.int_none _ _ , RcNeAt.int_none _ _ ⟩
    | bl b1 =>
      unfold Rep at he
      subst he; cases ru
      exact ⟨RcAt.int_bool _ _ _ , RcNeAt.int_bool _ _ _ ⟩
    | int i1 =>
      unfold Rep at he
      subst he; obtain ⟨t1, rfl⟩ := ru
      exact ⟨RcAt.int_int _ _ _ _ , RcNeAt.int_int _ _ _ _ ⟩
    | str x1 =>
      unfold Rep at he
      subst he; obtain ⟨t1, rfl⟩ := ru
      exact ⟨RcAt.int_str _ _ _ _ , RcNeAt.int_str _ _ _ _ ⟩
    | tup es =>
      unfold Rep at he
      obtain ⟨b, ys, rfl, q2, r2⟩ := he
      cases ru
      obtain ⟨_, _, t1, _⟩ := I.tuple q2
      exact ⟨RcAt.int_tuple _ _ t1 (by omega), RcNeAt.int_tuple _ _ t1 (by omega)⟩
    | lst es =>
      unfold Rep at he
      obtain ⟨b, ys, rfl, q2, r2⟩ := he
      cases ru
      obtain ⟨_, _, t1, _⟩ := I.list q2
      exact ⟨RcAt.int_list _ _ t1.isList (by omega), RcNeAt.int_list _ _ t1.isList (by omega)⟩
  | str x0 =>
    unfold Rep at hd
    subst hd; obtain ⟨t0, rfl⟩ := rv
    cases e with
    | non =>
      unfold Rep at he
      subst he; cases ru
      exact ⟨RcAt.str_none _ _ , RcNeAt.str_none _ _ ⟩
    | bl b1 =>
      unfold Rep at he
      subst he; cases ru
      exact ⟨RcAt.str_bool _ _ _ , RcNeAt.str_bool _ _ _ ⟩
    | int i1 =>
      unfold Rep at he
      subst he; obtain ⟨t1, rfl⟩ := ru
      exact ⟨RcAt.str_int _ _ _ _ , RcNeAt.str_int _ _ _ _ ⟩
    | str x1 =>
      unfold Rep at he
      subst he; obtain ⟨t1, rfl⟩ := ru
      exact ⟨RcAt.str_str _ _ _ _ , RcNeAt.str_str _ _ _ _ ⟩
    | tup es =>
      unfold Rep at he
      obtain ⟨b, ys, rfl, q2, r2⟩ := he
      cases ru
      obtain ⟨_, _, t1, _⟩ := I.tuple q2
      exact ⟨RcAt.str_tuple _ _ t1 (by omega), RcNeAt.str_tuple _ _ t1 (by omega)⟩
    | lst es =>
      unfold Rep at he
      obtain ⟨b, ys, rfl, q2, r2⟩ := he
      cases ru
      obtain ⟨_, _, t1, _⟩ := I.list q2
      exact ⟨RcAt.str_list _ _ t1.isList (by omega), RcNeAt.str_list _ _ t1.isList (by omega)⟩
  | tup ds =>
    unfold Rep at hd
    obtain ⟨a, xs, rfl, q, r⟩ := hd
    cases rv
    rw [deep] at hu
    obtain ⟨_, _, t0, _⟩ := I.tuple q
    cases e with
    | non =>
      unfold Rep at he
      subst he; cases ru
      exact ⟨RcAt.tuple_none t0 (by omega), RcNeAt.tuple_none t0 (by omega)⟩
    | bl b1 =>
      unfold Rep at he
      subst he; cases ru
      exact ⟨RcAt.tuple_bool _ t0 (by omega), RcNeAt.tuple_bool _ t0 (by omega)⟩
    | int i1 =>
      unfold Rep at he
      subst he; obtain ⟨t1, rfl⟩ := ru
      exact ⟨RcAt.tuple_int _ _ t0 (by omega), RcNeAt.tuple_int _ _ t0 (by omega)⟩
    | str x1 =>
      unfold Rep at he
      subst he; obtain ⟨t1, rfl⟩ := ru
      exact ⟨RcAt.tuple_str _ _ t0 (by omega), RcNeAt.tuple_str _ _ t0 (by omega)⟩
    | tup es =>
      unfold Rep at he
      obtain ⟨b, ys, rfl, q2, r2⟩ := he
      cases ru
      obtain ⟨_, _, t1, _⟩ := I.tuple q2
      have z := rc_tup I q r q2 r2 (A := A) (by omega) fun us ws w1 w2 j v u e1 e2 => eqAtDs I ds es A.in1 xs ys us ws r r2 w1 w2 (by rw [in1_units]; omega) j v u e1 e2
      rw [eqD]; exact z
    | lst es =>
      unfold Rep at he
      obtain ⟨b, ys, rfl, q2, r2⟩ := he
      cases ru
      obtain ⟨_, _, t1, _⟩ := I.list q2
      exact ⟨RcAt.tuple_list t0 t1.isList (by omega), RcNeAt.tuple_list t0 t1.isList (by omega)⟩
  | lst ds =>
    unfold Rep at hd
    obtain ⟨a, xs, rfl, q, r⟩ := hd
    cases rv
    rw [deep] at hu
    obtain ⟨_, _, t0, _⟩ := I.list q
    cases e with
    | non =>
      unfold Rep at he
      subst he; cases ru
      exact ⟨RcAt.list_none t0.isList (by omega), RcNeAt.list_none t0.isList (by omega)⟩
    | bl b1 =>
      unfold Rep at he
      subst he; cases ru
      exact ⟨RcAt.list_bool _ t0.isList (by omega), RcNeAt.list_bool _ t0.isList (by omega)⟩
    | int i1 =>
      unfold Rep at he
      subst he; obtain ⟨t1, rfl⟩ := ru
      exact ⟨RcAt.list_int _ _ t0.isList (by omega), RcNeAt.list_int _ _ t0.isList (by omega)⟩
    | str x1 =>
      unfold Rep at he
      subst he; obtain ⟨t1, rfl⟩ := ru
      exact ⟨RcAt.list_str _ _ t0.isList (by omega), RcNeAt.list_str _ _ t0.isList (by omega)⟩
    | tup es =>
      unfold Rep at he
      obtain ⟨b, ys, rfl, q2, r2⟩ := he
      cases ru
      obtain ⟨_, _, t1, _⟩ := I.tuple q2
      exact ⟨RcAt.list_tuple t0.isList t1 (by omega), RcNeAt.list_tuple t0.isList t1 (by omega)⟩
    | lst es =>
      unfold Rep at he
      obtain ⟨b, ys, rfl, q2, r2⟩ := he
      cases ru
      obtain ⟨_, _, t1, _⟩ := I.list q2
      have z := rc_lst I q r q2 r2 (A := A) (by omega) fun us ws w1 w2 j v u e1 e2 => eqAtDs I ds es A.in1 xs ys us ws r r2 w1 w2 (by rw [in1_units]; omega) j v u e1 e2
      rw [eqD]; exact z
def rEqD (K : PySem.W.Frag) : R2 := fun x y H Q => ∃ d e, Rep K H d x ∧ Rep K H e y ∧ deep d ≤ 60 ∧ Q (.bl (eqD d e)) H
def rNeD (K : PySem.W.Frag) : R2 := fun x y H Q => ∃ d e, Rep K H d x ∧ Rep K H e y ∧ deep d ≤ 60 ∧ Q (.bl (!eqD d e)) H
theorem op_eqD (hu : X.A.units + 64 < cLine) : OpR X (compareOp .Eq) (rEqD X.K) := by
  intro pins s σ H x y v u Q I rx ry h
  obtain ⟨d, e, hd, he, hz, q⟩ := h
  exact (rcD (A := X.A) I d e hd he rx ry (by omega)).1 X.prog X.w X.xe _ ⟨.bl (eqD d e), H, I, rfl, q⟩
theorem op_neD (hu : X.A.units + 64 < cLine) : OpR X (compareOp .NotEq) (rNeD X.K) := by
  intro pins s σ H x y v u Q I rx ry h
  obtain ⟨d, e, hd, he, hz, q⟩ := h
  exact (rcD (A := X.A) I d e hd he rx ry (by omega)).2 X.prog X.w X.xe _ ⟨.bl (!eqD d e), H, I, rfl, q⟩
noncomputable def absD (K : PySem.W.Frag) (H : Hp) (u : Value) : D := by
  classical exact if h : ∃ d v, RelV v u ∧ Rep K H d v then h.choose else .non
theorem absD_eq {d : D} {v : V} {u : Value} (I : Inv X pins σ H s) (r : RelV v u) (h : Rep X.K H d v) : absD X.K H u = d := by
  have hx : ∃ d v, RelV v u ∧ Rep X.K H d v := ⟨d, v, r, h⟩
  unfold absD
  rw [dif_pos hx]
  obtain ⟨v2, r2, h2⟩ := hx.choose_spec
  have := r2.inj r
  subst this
  exact Rep.inj I _ _ _ h2 h
theorem any_vals {K : PySem.W.Frag} {H : Hp} {d : D} (f : Value → D) : ∀ {ds : List D} {xs : List V} {us : List Value}, Reps K H ds xs → Vals xs us → (∀ d v u, Rep K H d v → RelV v u → f u = d) → (us.any fun u => eqD (f u) d) = ds.any fun e => eqD e d
  | [], _, _, h, rv, _ => by rw [h.inv0] at rv; cases rv; rfl
  | e :: ds, _, _, h, rv, hf => by
    obtain ⟨v, r, rfl, q, t⟩ := h.inv
    cases rv with
    | cons r1 r2 => rw [List.any_cons, List.any_cons, hf _ _ _ q r1, any_vals f t r2 hf]
theorem mem_rep {K : PySem.W.Frag} {H : Hp} : ∀ {ds : List D} {xs : List V} {us : List Value}, Reps K H ds xs → Vals xs us → ∀ u ∈ us, ∃ d v, Rep K H d v ∧ RelV v u ∧ deep d ≤ deeps ds
  | [], _, _, h, rv, u, hu => by rw [h.inv0] at rv; cases rv; cases hu
  | e :: ds, _, _, h, rv, u, hu => by
    obtain ⟨v, r, rfl, q, t⟩ := h.inv
    cases rv with
    | cons r1 r2 =>
      rw [deeps]
      rcases List.mem_cons.mp hu with z | z
      · subst z; exact ⟨e, v, q, r1, by omega⟩
      · obtain ⟨d, w', a, b, c⟩ := mem_rep t r2 u z
        exact ⟨d, w', a, b, by omega⟩
def rInD (K : PySem.W.Frag) (neg : Bool) : R2 := fun x y H Q => ∃ d p xs ds, Rep K H d x ∧ y = .ref p ∧ SqL K H p xs ∧ Reps K H ds xs ∧ deeps ds ≤ 60 ∧ Q (.bl (if neg then !ds.any (fun e => eqD e d) else ds.any fun e => eqD e d)) H
theorem op_inD (hu : X.A.units + 64 < cLine) : OpR X (compareOp .In) (rInD X.K false) := by
  intro pins s σ H x y v u Q I rx ry h
  obtain ⟨d, p, xs, ds, hd, rfl, hq, hr, hz, q⟩ := h
  cases ry
  obtain ⟨its, rv, t, _⟩ := I.list hq
  refine in_listAt (fun u => eqD (absD X.K H u) d) t.isList (fun z hz' => ?_) ?_
  · obtain ⟨e, w', a, b, c⟩ := mem_rep hr rv z (by simpa using hz')
    have := eqAtD I e d X.A.in1 w' x z v a hd b rx (by rw [in1_units]; omega)
    rw [absD_eq I b a]
    exact this
  · refine ⟨.bl _, H, I, rfl, ?_⟩
    have e := any_vals (d := d) (absD X.K H) hr rv fun d v u a b => absD_eq I b a
    have e2 : (its.toArray.any fun u => eqD (absD X.K H u) d) = ds.any fun e => eqD e d := by rw [← e]; simp
    rw [e2]; exact q
theorem op_notInD (hu : X.A.units + 64 < cLine) : OpR X (compareOp .NotIn) (rInD X.K true) := by
  intro pins s σ H x y v u Q I rx ry h
  obtain ⟨d, p, xs, ds, hd, rfl, hq, hr, hz, q⟩ := h
  cases ry
  obtain ⟨its, rv, t, _⟩ := I.list hq
  refine notIn_listAt (fun u => eqD (absD X.K H u) d) t.isList (fun z hz' => ?_) ?_
  · obtain ⟨e, w', a, b, c⟩ := mem_rep hr rv z (by simpa using hz')
    have := eqAtD I e d X.A.in1 w' x z v a hd b rx (by rw [in1_units]; omega)
    rw [absD_eq I b a]
    exact this
  · refine ⟨.bl _, H, I, rfl, ?_⟩
    have e := any_vals (d := d) (absD X.K H) hr rv fun d v u a b => absD_eq I b a
    have e2 : (its.toArray.any fun u => eqD (absD X.K H u) d) = ds.any fun e => eqD e d := by rw [← e]; simp
    rw [e2]; exact q
end
end L3

/-! [e for x in xs], [e for x in xs if c]: the block runs in a context of its own; no exception leaves it. -/
namespace L3
open PySem PySem.Spec PyProof.Rows L2
def blk (X : Cx) (scope : Scope) (cl : List (Str × Addr)) (N' : List Str) (C : Addr) (s₀ : Shared) (H₀ : Hp) (ex : List Addr) (pn : List (Addr × Obj)) : Cx where
  prog := X.prog
  w := X.w
  K := X.K
  mg := X.mg
  base := X.base
  A := X.A
  N := N'
  s₀ := s₀
  H₀ := H₀
  env := compEnvC scope cl C X.env
  outer := X.stack
  stack := X.stack
  ex := ex
  fn := fun _ => false
  calm := X.calm
  pn := pn
  xe := fun _ _ => False
abbrev lobj (its : List Value) : Obj := { cls := .type "list", data := .seq its.toArray its.length }
theorem toE {α : Type} {t : Sem α} {Q : α → Shared → Prop} {M : Model} {A : Around} {E : Value → Shared → Prop} {s : Shared} (h : wpAny M A t Q (fun _ _ => False) s) : wpAny M A t Q E s := wpAny_mono h (fun _ _ q => q) fun _ _ f => f.elim
section
variable {X : Cx} {pins : List (Addr × Obj)} {σ : L2.St} {H : Hp} {s : Shared}
def PF (X : Cx) (ifs : List Expr) (t : TT) : Prop := ∀ (pins : List (Addr × Obj)) (s : Shared) (σ : L2.St) (H : Hp) (Q : Bool → Hp → Prop), Inv X pins σ H s → t σ H Q →
  wpAny (model X.prog X.w) X.A (forIn ifs true fun c r => if r = true then do let ok ← isTrue c X.env (eval c X.env); pure (ForInStep.yield ok) else pure (ForInStep.yield r)) (TP X pins σ Q) X.xe s
def tTrue : TT := fun _ H Q => Q true H
theorem pf_nil : PF X [] tTrue := fun _ _ _ H _ I h => wpAny_tests_nil ⟨H, I, h⟩
theorem pf_one {c : Expr} {t : TT} (h : PT X c t) : PF X [c] t := fun pins s σ H Q I hq => wpAny_tests_one (h pins s σ H Q I hq)

theorem Inv.track {D : Addr} {ys : List V} {its : List Value} (I : Inv X pins σ H s) (hD : H D = none) (ho : s.heap.get? D = some (lobj its)) (hv : Vals ys its) (hz : ys.length ≤ sizeLine)
    (h1 : D ∈ X.ex ∨ X.s₀.heap.objs.size ≤ D) (h2 : D ≠ X.env.locals) (h3 : ∀ x c, X.env.cells.lookup x = some c → c ≠ D) (h4 : ∀ p ∈ X.pn ++ pins, p.1 ≠ D) : Inv X pins σ (upd H D (.lst ys)) s := by
  have old : ∀ b u, H b = some u → upd H D (.lst ys) b = some u := fun b u e => by rw [upd_ne (ne_of_none e hD)]; exact e
  refine I.step (g' := s.gens) (t' := s.toks) (d' := s.drawn) (h' := s.heap) (ch := [D]) (fun b hb => ?_) (fun b o _ _ _ e _ => e) (fun b o _ _ _ e _ => ⟨o.slots, e⟩) (fun b o hb _ n => ?_) (fun b o _ e => ⟨o, e⟩)
    (fun b xs e => old b _ e) (fun b o u e => old b _ e) (fun b ps e => ⟨#[], by rw [old b _ e]; simp⟩) (fun m hm => hm) (fun b u e => ?_) I.bare
  · have e : b = D := by simpa using hb
    subst e
    exact ⟨h1, h2, h3, h4⟩
  · rw [upd_ne (by simpa using hb)]; exact n
  · by_cases hb : b = D
    · subst hb
      rw [upd_same] at e; cases e
      exact ⟨hz, its, its.length, hv, ho⟩
    · rw [upd_ne hb] at e
      exact (I.hok b u e).stay (fun c v _ q => q) (fun c q => old c _ q) fun c xs q => old c _ q

def lend (js : List (Option Nat)) (σ : L2.St) : L2.St := js.map fun o => o.bind fun j => (σ[j]?).join
structure Blk (X : Cx) (scope : Scope) (cl : List (Str × Addr)) (N' : List Str) (js : List (Option Nat)) : Prop where
  clos : closureFor scope X.env = pure cl
  nocell : ∀ y ∈ scope.names, y.2 ≠ .cell
  kind : scope.kind = .function
  names : ∀ y ∈ scope.names, y.2 = .local → scope.names.lookup y.1 = some .local
  sub : ∀ y c, cl.lookup y = some c → X.env.cells.lookup y = some c
  has : ∀ y, ((relabel scope X.env).names.lookup y = some .cell ∨ (relabel scope X.env).names.lookup y = some .free) → ∃ c, cl.lookup y = some c
  len : js.length = N'.length
  lent : ∀ (i : Nat) y j, N'[i]? = some y → js[i]? = some (some j) → X.N[j]? = some y ∧ Vis X.env.scope y ∧ X.env.scope.names.lookup y ≠ some .local ∧ (relabel scope X.env).names.lookup y ≠ some .local

theorem blk_inv {scope : Scope} {cl : List (Str × Addr)} {N' : List Str} {js : List (Option Nat)} {fp : List Addr} {C : Addr} {h1 : Heap} {m : Str → Option Value} {tk : Nat} (B : Blk X scope cl N' js) (I : Inv X pins σ H s) (f : ∀ b ∈ fp, FpOk X pins H b)
    (fo : ∀ b ∈ fp, ∃ o, s.heap.get? b = some o) (old : ∀ b o, s.heap.get? b = some o → h1.get? b = some o) (hns : h1.Ns C m) (hC : s.heap.objs.size ≤ C) :
    Inv (blk X scope cl N' C s H fp (X.pn ++ pins)) [] (lend js σ) H { s with heap := h1, toks := tk } := by
  have ltC : ∀ b o, s.heap.get? b = some o → b ≠ C := fun b o e => Nat.ne_of_lt (Nat.lt_of_lt_of_le (Heap.lt_size e) hC)
  refine ⟨⟨I.ok.mod, B.kind, I.ok.glob, I.ok.blt, hC, fun y z c e1 e2 => I.ok.inj y z c (B.sub y c e1) (B.sub z c e2), fun y hy => B.has y hy, (fun y c e => nomatch e), I.ok.hd, I.ok.frames, .inl rfl, fun b hb => ?_, I.bs, ?_, fun b o e hb => ?_, fun b hb hs => ?_, I.stack, I.stkFree⟩,
    rfl, I.bare, Un.kept old, ⟨m, hns, fun i y v e1 e2 e3 => ?_⟩, fun y c e => ?_, I.hok.fresh hC, fun y c e => I.freeC y c (B.sub y c e), fun p hp => ?_, I.hok.kept old, ?_⟩
  · obtain ⟨o, e⟩ := fo b hb
    exact ⟨ltC b o e, fun y c q => (f b hb).2.2.2.2.1 y c (B.sub y c q)⟩
  · exact Nat.le_trans I.ok.bsz I.sz
  · rcases (f b hb).2.2.2.1 with z | z
    · exact I.ok.noex b o e z
    · exact absurd (Nat.lt_of_lt_of_le (Heap.lt_size (I.ok.bs b o e).1) z) (Nat.lt_irrefl _)
  · rcases List.mem_cons.mp (I.stkSub b hs) with z | z
    · exact (f b hb).2.1 z
    · exact (f b hb).2.2.1 z
  · have e2' : (lend js σ)[i]? = some (some v) := e2
    unfold lend at e2'
    rw [List.getElem?_map] at e2'
    cases ej : js[i]? with
    | none => rw [ej] at e2'; cases e2'
    | some o =>
      rw [ej] at e2'
      cases o with
      | none => cases e2'
      | some j =>
        obtain ⟨n1, n2, n3, n4⟩ := B.lent i y j e1 ej
        have es : σ[j]? = some (some v) := by
          cases q : σ[j]? with
          | none => rw [show (some (some j)).map _ = _ from rfl] at e2'; simp [q] at e2'
          | some z => simp [q] at e2'; rw [e2']
        obtain ⟨m0, hn0, hl0⟩ := I.loc
        obtain ⟨u, r, l⟩ := hl0 j y v n1 es n2
        refine ⟨u, r, ?_⟩
        rcases l with ⟨k, _⟩ | ⟨k, c, ec, z⟩
        · exact absurd k n3
        · have k' : (relabel scope X.env).names.lookup y = some .cell ∨ (relabel scope X.env).names.lookup y = some .free := by
            rcases e3 with q | q
            · exact absurd q n4
            · exact q
          obtain ⟨c', ec'⟩ := B.has y k'
          have := B.sub y c' ec'
          rw [ec] at this; cases this
          obtain ⟨oc, hoc, hd⟩ := z
          exact .inr ⟨k', c, ec', oc, old _ _ hoc, hd⟩
  · obtain ⟨v, oc, hoc, hd⟩ := I.cell y c (B.sub y c e)
    exact ⟨v, oc, old _ _ hoc, hd⟩
  · have hp' : p ∈ X.pn ++ pins := by simpa [blk] using hp
    obtain ⟨e, n, ne, nf, d⟩ := I.pin p hp'
    refine ⟨old _ _ e, n, ltC _ _ e, fun hs => ?_, d⟩
    rcases List.mem_cons.mp (I.stkSub p.1 hs) with z | z
    · exact ne z
    · exact nf z
  · show (lend js σ).length = N'.length
    unfold lend
    rw [List.length_map, B.len]

theorem codeAny_compLoop_any {prog : Program} {w : World} {A : Around} {R : Result → Shared → Prop} {s : Shared} {elt target iter : Expr} {ifs : List Expr} {scope : Scope} {pos : Pos} {it acc : Value} {env : Env} (I : Nat → Shared → Prop)
    (turn : ∀ n s, I n s → wpAny (model prog w) A (pyNext it) (fun r s₁ => match r with
      | none => R (.ok .next) s₁
      | some v => wpAny (model prog w) A (letOwnedTupleGo target it v) (fun _ s₁' => wpAny (model prog w) A (assign target env v) (fun _ s₂ =>
          wpAny (model prog w) A (forIn ifs true fun c r => if r = true then do let ok ← isTrue c env (eval c env); pure (ForInStep.yield ok) else pure (ForInStep.yield r)) (fun ok s₃ =>
            if ok = true then wpAny (model prog w) A (eval elt env) (fun x s₄ =>
              wpAny (model prog w) A (call (.builtin "list.append") [acc, x]) (fun _ s₅ => ∃ m, m < n ∧ I m s₅) (fun _ _ => False) s₄) (fun _ _ => False) s₃
            else ∃ m, m < n ∧ I m s₃) (fun _ _ => False) s₂) (fun _ _ => False) s₁') (fun _ _ => False) s₁) (fun _ _ => False) s)
    (n : Nat) (h : I n s) :
    codeAny (model prog w) A (.compLoop (.ListComp elt [⟨target, iter, ifs, 0⟩] scope pos) 0 it acc env) R s := by
  refine codeAny_loop rfl I (fun n s hI => ?_) n h
  show wpAny _ A ((compTurn (.ListComp elt [⟨target, iter, ifs, 0⟩] scope pos) 0 it acc env).onRaise (fun x => do noteFrame x env; theTreesLotGoes x)) _ _ s
  refine wpAny_noted ?_
  rw [compTurn_list]
  refine wpAny_bind (wpAny_standAt (wpAny_bind (wpAny_mono (turn n s hI) (fun r s₁ h₁ => ?_) fun _ _ f => f.elim)))
  cases r with
  | none => exact wpAny_pure h₁
  | some v =>
    refine wpAny_bind (wpAny_mono h₁ (fun _ s₁' h₁' => ?_) fun _ _ f => f.elim)
    refine wpAny_bind (wpAny_mono h₁' (fun _ s₂ h₂ => wpAny_bind (wpAny_mono h₂ (fun ok s₃ h₃ => ?_) fun _ _ f => f.elim)) fun _ _ f => f.elim)
    cases ok with
    | false => exact wpAny_pure ⟨rfl, h₃⟩
    | true =>
      exact wpAny_bind (wpAny_bind (wpAny_mono h₃ (fun x s₄ h₄ => wpAny_bind (wpAny_mono h₄ (fun _ s₅ h₅ => wpAny_pure (wpAny_pure ⟨rfl, h₅⟩)) fun _ _ f => f.elim)) fun _ _ f => f.elim))

def CompGo (J : It) (g : TG) (tf : TT) (te : TE) (Q : VK) (τ0 : L2.St) (H1 : Hp) : Prop := ∃ W : Nat → Nat → List V → L2.St → Hp → Prop, (∃ m, W 0 m [] τ0 H1) ∧ ∀ i m ys τ H, W i m ys τ H →
  (J.stop i H ∧ ∀ p, H p = none → Q (.ref p) (upd H p (.lst ys))) ∨ (J.go i H ∧ ∃ Nx : List V → L2.St → Hp → Prop, (∀ ys' τ' H', Nx ys' τ' H' → ∃ m', m' < m ∧ W (i + 1) m' ys' τ' H') ∧
    ∀ v H', J.yld i H v H' → g v τ H' fun τ2 H2 => tf τ2 H2 fun b H3 => if b = true then te τ2 H3 fun y H4 => ys.length < sizeLine ∧ Nx (ys ++ [y]) τ2 H4 else Nx ys τ2 H3)
def tComp (js : List (Option Nat)) (wi : TI) (g : TG) (tf : TT) (te : TE) : TE := fun σ H Q => wi σ H fun J H1 => CompGo J g tf te Q (lend js σ) H1
theorem comp_core {elt iter tg : Expr} {ifs : List Expr} {scope : Scope} {pos : Pos} {cl : List (Str × Addr)} {N' : List Str} {js : List (Option Nat)} {g : TG} {tf : TT} {te : TE} {RR : Value → Addr → Result → Shared → Prop} {Qv : VK} {E : Value → Shared → Prop} {it : Addr} {fp : List Addr} {tn : Nat → Heap → Prop} {J : It} {H2 : Hp} {s2 : Shared}
    (hc : X.calm = true) (B : Blk X scope cl N' js) (hg : ∀ C s₀ H₀ ex pn, PG (blk X scope cl N' C s₀ H₀ ex pn) tg g) (hf : ∀ C s₀ H₀ ex pn, PF (blk X scope cl N' C s₀ H₀ ex pn) ifs tf) (he : ∀ C s₀ H₀ ex pn, PE (blk X scope cl N' C s₀ H₀ ex pn) elt te)
    (I2 : Inv X pins σ H2 s2) (T : Turn X.prog X.w X.K tg J fp it tn) (st2 : tn 0 s2.heap) (f2 : ∀ b ∈ fp, FpOk X pins H2 b) (cg : CompGo J g tf te Qv (lend js σ) H2)
    (fin : ∀ (Dd Cc : Addr) (m : Str → Option Value) (s4 : Shared) (Hx : Hp), Inv X pins σ Hx s4 → Qv (.ref Dd) Hx → s4.heap.Ns Cc m → Hx Cc = none → Cc ≠ X.env.locals → X.s₀.heap.objs.size ≤ Cc → (∀ x c, X.env.cells.lookup x = some c → c ≠ Cc) → (∀ p ∈ X.pn ++ pins, p.1 ≠ Cc) →
      RR (.ref Dd) Cc (.ok .next) s4) :
    wpAny (model X.prog X.w) X.A (newList []) (fun acc s₃ => wpAny (model X.prog X.w) X.A (newFunctionEnv scope X.env.globals cl [] X.env.qual none .none (some X.env)) (fun cenv s₄ =>
      codeAny (model X.prog X.w) X.A (.compStart (.ListComp elt [⟨tg, iter, ifs, 0⟩] scope pos) 0 (.ref it) acc { cenv with scope := relabel scope X.env }) (RR acc cenv.locals) s₄) E s₃) E s2 := by
  obtain ⟨W, ⟨m0, w0⟩, turn⟩ := cg
  refine wpAny_newObj_type (wpAny_newFunctionEnv B.nocell (by intro y hy; simp at hy) (fun h₁ hns₁ hsb₁ => ?_) B.kind)
  dsimp only at hns₁ hsb₁ ⊢
  generalize hG : s2.heap.push { cls := .type "list", dict := none, data := .seq ([] : List Value).toArray } = G at hns₁ hsb₁ ⊢
  have hC : G.objs.size = s2.heap.objs.size + 1 := by rw [← hG, Heap.size_push]
  have hDC : s2.heap.objs.size ≠ G.objs.size := by rw [hC]; exact Nat.ne_of_lt (Nat.lt_succ_self _)
  have below : ∀ b, b < s2.heap.objs.size → b ≠ G.objs.size ∧ b ≠ s2.heap.objs.size := fun b hb => ⟨by rw [hC]; exact Nat.ne_of_lt (Nat.lt_succ_of_lt hb), Nat.ne_of_lt hb⟩
  have old : ∀ b o, s2.heap.get? b = some o → h₁.get? b = some o := fun b o e => hsb₁.extBut b o (below b (Heap.lt_size e)).1 (Heap.get?_push_of_some _ (hG ▸ Heap.get?_push_of_some _ e))
  have hacc : h₁.get? s2.heap.objs.size = some (lobj []) := hsb₁.extBut _ _ hDC (Heap.get?_push_of_some _ (hG ▸ Heap.get?_push_size _ rfl))
  have fo : ∀ b ∈ fp, ∃ o, s2.heap.get? b = some o := fun b hb => let ⟨o, e, _⟩ := T.obj 0 _ st2 b hb; ⟨o, e⟩
  have I4 := blk_inv (tk := s2.toks + ([] : List (Str × Value)).length) B I2 f2 fo old hns₁ (by rw [hC]; exact Nat.le_succ _)
  generalize hD : s2.heap.objs.size = Dd at *
  generalize hCC : G.objs.size = Cc at *
  have st4 : tn 0 h₁ := T.keep 0 _ _ st2 fun b _ o e => old b o e
  have fpne : ∀ b ∈ fp, b ≠ Dd := fun b hb => let ⟨o, e⟩ := fo b hb; by rw [← hD]; exact Nat.ne_of_lt (Heap.lt_size e)
  have hDfree : H2 Dd = none := I2.hok.fresh (by rw [hD]; exact Nat.le_refl _)
  have hDfs : Dd ∉ frs X.stack := fun hb => by
    rcases List.mem_cons.mp (I2.stkSub _ hb) with z | z
    · have := I2.lt; rw [← z, hD] at this; exact Nat.lt_irrefl _ this
    · exact I2.nofs (a := Dd) (by rw [hD]; exact Nat.le_refl _) z
  have hDcell : ∀ x c, X.env.cells.lookup x = some c → c ≠ Dd := fun x c e z => by
    obtain ⟨v, q⟩ := I2.cell x c e
    have := q.lt
    rw [z, ← hD] at this; exact Nat.lt_irrefl _ this
  have hDpin : ∀ p ∈ X.pn ++ pins, p.1 ≠ Dd := fun p hp z => by
    have := Heap.lt_size (I2.pin p hp).1
    rw [z, ← hD] at this; exact Nat.lt_irrefl _ this
  -- the block's context
  generalize hXb : blk X scope cl N' Cc s2 H2 fp (X.pn ++ pins) = Xb at I4
  have xP : Xb.prog = X.prog := by rw [← hXb]; rfl
  have xW : Xb.w = X.w := by rw [← hXb]; rfl
  have xK : Xb.K = X.K := by rw [← hXb]; rfl
  have xA : Xb.A = X.A := by rw [← hXb]; rfl
  have xC : Xb.calm = true := by rw [← hXb]; exact hc
  have xL : Xb.env.locals = Cc := by rw [← hXb]; rfl
  have xFs : Xb.fs = frs X.stack := by rw [← hXb]; rfl
  have xEx : Xb.ex = fp := by rw [← hXb]; rfl
  have xPn : Xb.pn = X.pn ++ pins := by rw [← hXb]; rfl
  have xS : Xb.s₀ = s2 := by rw [← hXb]; rfl
  have xH : Xb.H₀ = H2 := by rw [← hXb]; rfl
  have xCl : ∀ y c, Xb.env.cells.lookup y = some c → X.env.cells.lookup y = some c := by rw [← hXb]; exact B.sub
  have xE : Xb.env = compEnvC scope cl Cc X.env := by rw [← hXb]; rfl
  have xX : Xb.xe = fun _ _ => False := by rw [← hXb]; rfl
  have hg' : PG Xb tg g := by rw [← hXb]; exact hg _ _ _ _ _
  have hf' : PF Xb ifs tf := by rw [← hXb]; exact hf _ _ _ _ _
  have he' : PE Xb elt te := by rw [← hXb]; exact he _ _ _ _ _
  have fok : ∀ {H' : Hp} {o : Obj}, (∀ b ∈ fp, H' b = none) → ∀ b ∈ fp, FpOk Xb [(Dd, o)] H' b := fun {H' o} hn b hb => by
    obtain ⟨o', e'⟩ := fo b hb
    refine ⟨hn b hb, ?_, ?_, .inl (by rw [xEx]; exact hb), fun y c q => (f2 b hb).2.2.2.2.1 y c (xCl y c q), fun p hp => ?_⟩
    · rw [xL]; exact (below b (by have := Heap.lt_size e'; rw [hD] at this; exact this)).1
    · rw [xFs]
      intro hs
      rcases List.mem_cons.mp (I2.stkSub b hs) with z | z
      · exact (f2 b hb).2.1 z
      · exact (f2 b hb).2.2.1 z
    · rw [xPn] at hp
      rcases List.mem_append.mp hp with z | z
      · exact (f2 b hb).2.2.2.2.2 p z
      · rw [List.mem_singleton.mp z]; exact (fpne b hb).symm
  have hDC' : Dd ≠ Cc := by rw [← hD, ← hCC]; rw [← hCC, ← hD] at hDC; exact hDC
  have loop : codeAny (model X.prog X.w) X.A (.compLoop (.ListComp elt [⟨tg, iter, ifs, 0⟩] scope pos) 0 (.ref it) (.ref Dd) (compEnvC scope cl Cc X.env)) (RR (.ref Dd) Cc)
      { s2 with heap := h₁, toks := s2.toks + ([] : List (Str × Value)).length } := by
    refine codeAny_compLoop_any (fun n s' => ∃ i ys τ H' its, Inv Xb [(Dd, lobj its)] τ H' s' ∧ tn i s'.heap ∧ (∀ b ∈ fp, H' b = none) ∧ Vals ys its ∧ ys.length ≤ sizeLine ∧ W i n ys τ H') ?_ m0
      ⟨0, [], _, H2, [], I4.pins_of (fun p hp => ?_), st4, fun b hb => (f2 b hb).1, .nil, Nat.zero_le _, w0⟩
    · rintro n s3 ⟨i, ys, τ, H3, its, I3, st3, fr3, hv, hz, w3⟩
      have pD := I3.pin (Dd, lobj its) (List.mem_append_right _ (List.mem_singleton.mpr rfl))
      rcases turn i n ys τ H3 w3 with ⟨stop, qn⟩ | ⟨go, Nx, hN, step⟩
      · have hd := T.done Xb xP xW xK xC i [(Dd, lobj its)] s3 τ H3 (fun _ _ => False) I3 (fok fr3) st3 stop
        rw [xA] at hd
        refine thn hd fun r s4 ⟨hr, I5⟩ => ?_
        subst hr
        obtain ⟨m, hn, _⟩ := id I5.loc
        rw [xL] at hn
        have pD5 := I5.pin (Dd, lobj its) (List.mem_append_right _ (List.mem_singleton.mpr rfl))
        have ub := I5.base
        rw [xFs, xEx, xS, xH] at ub
        have hfC : H3 Cc = none := by have := I5.free; rw [xL] at this; exact this
        have ok5 : HOk X.prog X.w H3 s4.heap := by have := I5.hok; rw [xP, xW] at this; exact this
        have IX : Inv X pins σ H3 s4 := I2.call' (s' := s4) (by rw [I5.os, xS]) ub ok5 I5.bare fun b hb => ⟨(f2 b hb).2.2.2.1, (f2 b hb).2.1, (f2 b hb).2.2.2.2.1, (f2 b hb).2.2.2.2.2⟩
        have hlo : X.s₀.heap.objs.size ≤ Dd := by rw [← hD]; exact I2.sz
        have hloL : Dd ≠ X.env.locals := fun z => by have := I2.lt; rw [← z, hD] at this; exact Nat.lt_irrefl _ this
        have hCD : Dd ≤ Cc := by omega
        refine fin Dd Cc m s4 (upd H3 Dd (.lst ys)) (L3.Inv.track IX pD5.2.1 pD5.1 hv hz (.inr hlo) hloL hDcell hDpin) (qn Dd pD5.2.1) hn (by rw [upd_ne hDC'.symm]; exact hfC) ?_ (Nat.le_trans hlo hCD) ?_ ?_
        · intro z; have := I2.lt; rw [← z, hD] at this; exact Nat.lt_irrefl _ (Nat.lt_of_lt_of_le this hCD)
        · intro x c e z
          obtain ⟨v, q⟩ := I2.cell x c e
          have := q.lt
          rw [z, hD] at this; exact Nat.lt_irrefl _ (Nat.lt_of_lt_of_le this hCD)
        · intro p hp z
          have := Heap.lt_size (I2.pin p hp).1
          rw [z, hD] at this; exact Nat.lt_irrefl _ (Nat.lt_of_lt_of_le this hCD)
      · have hit := T.item Xb xP xW xK xC i [(Dd, lobj its)] s3 τ H3 (fun _ _ => False) I3 (fok fr3) st3 go
        rw [xA] at hit
        refine thn hit fun r s4 ⟨u, hr, h4⟩ => ?_
        subst hr
        refine thn h4 fun _ s5 ⟨x, H5, I5, r5, y5, st5, fr5⟩ => ?_
        have I5' := I5.pinned (fok fr5) (T.obj _ _ st5)
        have ga := hg' _ s5 τ H5 x u _ I5' r5 (step x H5 y5)
        rw [xP, xW, xA, xE, xX] at ga
        refine thn ga fun _ s6 ⟨τ6, H6, I6, q6⟩ => ?_
        have fa := hf' _ s6 τ6 H6 _ I6 q6
        rw [xP, xW, xA, xE, xX] at fa
        refine thn fa fun ok s7 ⟨H7, I7, q7⟩ => ?_
        have back : ∀ {τ8 : L2.St} {H8 : Hp} {s8 : Shared}, Inv Xb ([(Dd, lobj its)] ++ pinsAt fp s5.heap) τ8 H8 s8 → tn (i + 1) s8.heap ∧ (∀ b ∈ fp, H8 b = none) := fun {τ8 H8 s8} I8 =>
          ⟨T.keep _ _ _ st5 fun b hb o e => (I8.pin (b, o) (List.mem_append_right _ (List.mem_append_right _ (mem_pinsAt hb e)))).1, fun b hb => by
            obtain ⟨o, e, d⟩ := T.obj _ _ st5 b hb
            exact (I8.pin (b, o) (List.mem_append_right _ (List.mem_append_right _ (mem_pinsAt hb e)))).2.1⟩
        cases ok with
        | false =>
          rw [if_neg (by simp)] at q7 ⊢
          obtain ⟨m', hm, w7⟩ := hN _ _ _ q7
          obtain ⟨b1, b2⟩ := back I7
          exact ⟨m', hm, i + 1, ys, τ6, H7, its, I7.unpinned, b1, b2, hv, hz, w7⟩
        | true =>
          rw [if_pos rfl] at q7 ⊢
          have ea := he' _ s7 τ6 H7 _ I7 q7
          rw [xP, xW, xA, xE, xX] at ea
          refine thn ea fun yv s8 ⟨y, H8, I8, r8, hlt, n8⟩ => ?_
          have pD8 := I8.pin (Dd, lobj its) (List.mem_append_right _ (List.mem_append_left _ (List.mem_singleton.mpr rfl)))
          have hil : its.length = ys.length := hv.length.symm
          refine append_at (hsz := by rw [List.size_toArray]; omega) pD8.1 fun h' hs' ho' => ?_
          obtain ⟨m', hm, w8⟩ := hN _ _ _ n8
          obtain ⟨b1, b2⟩ := back I8
          have J1 : Inv Xb [] τ6 H8 s8 := I8.pins_of (fun p hp => nomatch hp)
          have J2 : Inv Xb [] τ6 H8 { s8 with heap := h' } := J1.turned (t' := s8.toks) (it := Dd) (fun b o hb e => (hs'.2 b hb).trans e) pD8.2.1 pD8.2.2.1 (.inr (by rw [xS, hD]; exact Nat.le_refl _)) (fun y c q => hDcell y c (xCl y c q)) fun p hp => by
            rw [xPn, List.append_nil] at hp
            exact hDpin p hp
          refine ⟨m', hm, i + 1, ys ++ [y], τ6, H8, its ++ [yv], J2.pins_of fun p hp => ?_, T.keep _ _ _ b1 fun b hb o e => (hs'.2 b (fpne b hb)).trans e, b2, hv.append (.cons r8 .nil), by rw [List.length_append, List.length_singleton]; omega, w8⟩
          rw [List.mem_singleton.mp hp]
          refine ⟨?_, pD8.2.1, pD8.2.2.1, pD8.2.2.2.1, fun v z => nomatch z⟩
          show h'.get? Dd = some (lobj (its ++ [yv]))
          rw [ho']
          show some ({ cls := .type "list", data := .seq (its.toArray.push yv) (its.length + 1) } : Obj) = some { cls := .type "list", data := .seq (its ++ [yv]).toArray (its ++ [yv]).length }
          rw [List.length_append, List.length_singleton, List.push_toArray]
    · rw [List.mem_singleton.mp hp]
      refine ⟨hacc, hDfree, ?_, ?_, fun v z => nomatch z⟩
      · rw [xL]; rw [← hCC, ← hD]; rw [← hCC, ← hD] at hDC; exact hDC
      · rw [xFs]; exact hDfs
  exact codeAny_compStart_list loop (T.self X.A 0 _ _ _ st4 loop)

theorem pe_comp {elt iter tg : Expr} {ifs : List Expr} {scope : Scope} {pos : Pos} {cl : List (Str × Addr)} {N' : List Str} {js : List (Option Nat)} {wi : TI} {g : TG} {tf : TT} {te : TE} (hc : X.calm = true) (B : Blk X scope cl N' js) (hi : PI X tg iter wi)
    (hg : ∀ C s₀ H₀ ex pn, PG (blk X scope cl N' C s₀ H₀ ex pn) tg g) (hf : ∀ C s₀ H₀ ex pn, PF (blk X scope cl N' C s₀ H₀ ex pn) ifs tf) (he : ∀ C s₀ H₀ ex pn, PE (blk X scope cl N' C s₀ H₀ ex pn) elt te)
    (hs : ∀ x, foldedSetIterable iter X.env x = pure x := by intro _; rfl) : PE X (.ListComp elt [⟨tg, iter, ifs, 0⟩] scope pos) (tComp js wi g tf te) := by
  intro pins s σ H Q I h
  rw [eval_ListComp]
  refine wpAny_comprehension_free (use := none) rfl hs B.clos B.kind B.names (thn (hi pins s σ H _ I h) fun xv s1 h1 => thn h1 fun itv s2 h2 => ?_)
  obtain ⟨it, fp, tn, J, H2, e, I2, T, st2, f2, cg⟩ := h2
  subst e
  refine comp_core (RR := fun acc C => compPost (model X.prog X.w) X.A X.xe none (EP X pins σ Q) acc C) hc B hg hf he I2 T st2 f2 cg ?_
  intro Dd Cc m s4 Hx IX q hn hC cL cS cC cP
  refine ⟨m, hn, fun h' hs' => ⟨.ref Dd, Hx, ?_, rfl, q⟩⟩
  exact IX.turned (t' := s4.toks) (it := Cc) (fun b o hb e => (hs'.2 b hb).trans e) hC cL (.inr cS) cC cP
end
/-! ### a block from checks -/
def capt (env : Env) : List (Str × NameKind) → List (Str × Addr) → List (Str × Addr)
  | [], acc => acc
  | (n, k) :: r, acc => capt env r (if k == .free then (match env.cells.lookup n with | some c => (n, c) :: acc | none => acc) else acc)
theorem lookup_cons' {n y : Str} {c : Addr} {acc : List (Str × Addr)} : ((n, c) :: acc).lookup y = if y == n then some c else acc.lookup y := by
  rw [List.lookup_cons]; cases y == n <;> rfl
theorem capt_sub {env : Env} : ∀ (names : List (Str × NameKind)) (acc : List (Str × Addr)), (∀ y c, acc.lookup y = some c → env.cells.lookup y = some c) → ∀ y c, (capt env names acc).lookup y = some c → env.cells.lookup y = some c
  | [], acc, h, y, c, e => h y c e
  | (n, k) :: r, acc, h, y, c, e => by
    unfold capt at e
    refine capt_sub r _ (fun y c q => ?_) y c e
    split at q
    · split at q
      · rename_i c' hc
        rw [lookup_cons'] at q
        split at q
        · rename_i hy
          cases q
          rw [eq_of_beq hy]; exact hc
        · exact h y c q
      · exact h y c q
    · exact h y c q
theorem capt_keep {env : Env} {y : Str} : ∀ (names : List (Str × NameKind)) (acc : List (Str × Addr)), (∃ c, acc.lookup y = some c) → ∃ c, (capt env names acc).lookup y = some c
  | [], acc, h => h
  | (n, k) :: r, acc, h => by
    unfold capt
    refine capt_keep r _ ?_
    split
    · split
      · rw [lookup_cons']
        split
        · exact ⟨_, rfl⟩
        · exact h
      · exact h
    · exact h
theorem capt_has {env : Env} {y : Str} (hy : (env.cells.lookup y).isSome = true) : ∀ (names : List (Str × NameKind)) (acc : List (Str × Addr)), (y, NameKind.free) ∈ names → ∃ c, (capt env names acc).lookup y = some c
  | (n, k) :: r, acc, h => by
    unfold capt
    rcases List.mem_cons.mp h with z | z
    · cases z
      refine capt_keep r _ ?_
      obtain ⟨c, hc⟩ := Option.isSome_iff_exists.mp hy
      rw [if_pos (by rfl), hc]
      exact ⟨c, by rw [lookup_cons', if_pos (beq_self_eq_true y)]⟩
    · exact capt_has hy r _ z
theorem relabel_free {scope : Scope} {env : Env} {y : Str} (h0 : ∀ z ∈ scope.names, z.2 ≠ .cell) (h : (relabel scope env).names.lookup y = some .cell ∨ (relabel scope env).names.lookup y = some .free) : (y, NameKind.free) ∈ scope.names := by
  have mem : ∃ k, (k = NameKind.cell ∨ k = NameKind.free) ∧ (y, k) ∈ (relabel scope env).names := by
    rcases h with h | h
    · exact ⟨_, .inl rfl, PySem.mem_of_lookup h⟩
    · exact ⟨_, .inr rfl, PySem.mem_of_lookup h⟩
  obtain ⟨k, hk, hm⟩ := mem
  unfold relabel at hm
  obtain ⟨⟨n, k'⟩, hm', e⟩ := List.mem_map.mp hm
  simp only at e
  split at e
  · rename_i hc
    cases e
    have : k' = .free := by
      simp only [Bool.and_eq_true, beq_iff_eq] at hc
      exact hc.1.1
    rw [← this]; exact hm'
  · cases e
    rcases hk with rfl | rfl
    · exact absurd rfl (h0 _ hm')
    · exact hm'
def chkFree (scope : Scope) (env : Env) : Bool := scope.names.all fun y => y.2 != .free || (env.cells.lookup y.1).isSome
def chkLent (X : Cx) (scope : Scope) : List Str → List (Option Nat) → Bool
  | [], [] => true
  | y :: N, o :: js => (match o with
    | none => true
    | some j => X.N[j]? == some y && (X.env.scope.names.lookup y == some .cell || X.env.scope.names.lookup y == some .free) && (relabel scope X.env).names.lookup y != some .local) && chkLent X scope N js
  | _, _ => false
theorem chkLent_at {X : Cx} {scope : Scope} : ∀ {N : List Str} {js : List (Option Nat)}, chkLent X scope N js = true → js.length = N.length ∧ ∀ (i : Nat) y j, N[i]? = some y → js[i]? = some (some j) → X.N[j]? = some y ∧ Vis X.env.scope y ∧ X.env.scope.names.lookup y ≠ some .local ∧ (relabel scope X.env).names.lookup y ≠ some .local
  | [], [], _ => ⟨rfl, fun i y j h => by simp at h⟩
  | [], _ :: _, h => by simp [chkLent] at h
  | _ :: _, [], h => by simp [chkLent] at h
  | z :: N, o :: js, h => by
    unfold chkLent at h
    rw [Bool.and_eq_true] at h
    obtain ⟨l, t⟩ := chkLent_at h.2
    refine ⟨by rw [List.length_cons, List.length_cons, l], fun i y j h1 h2 => ?_⟩
    cases i with
    | zero =>
      simp at h1 h2
      subst h1 h2
      have h' := h.1
      simp only [Bool.and_eq_true, Bool.or_eq_true, beq_iff_eq, bne_iff_ne] at h'
      refine ⟨h'.1.1, ?_, ?_, h'.2⟩
      · rcases h'.1.2 with q | q
        · exact .inr (.inl q)
        · exact .inr (.inr q)
      · rcases h'.1.2 with q | q <;> rw [q] <;> decide
    | succ i => exact t i y j (by simpa using h1) (by simpa using h2)
theorem blk_mk {X : Cx} {scope : Scope} {N' : List Str} {js : List (Option Nat)} (clos : closureFor scope X.env = pure (capt X.env scope.names [])) (nocell : ∀ y ∈ scope.names, y.2 ≠ .cell) (kind : scope.kind = .function)
    (names : ∀ y ∈ scope.names, y.2 = .local → scope.names.lookup y.1 = some .local) (free : chkFree scope X.env = true) (lent : chkLent X scope N' js = true) : Blk X scope (capt X.env scope.names []) N' js where
  clos := clos
  nocell := nocell
  kind := kind
  names := names
  sub := capt_sub _ _ fun y c e => nomatch e
  has := fun y h => by
    have hm := relabel_free nocell h
    have hf := List.all_eq_true.mp free _ hm
    exact capt_has (by simpa using hf) _ _ hm
  len := (chkLent_at lent).1
  lent := (chkLent_at lent).2
theorem comp_list {K : PySem.W.Frag} {a : Addr} {xs : List V} {g : TG} {tf : TT} {te : TE} {τ : L2.St} {H : Hp} {Q : VK} (Pv : Nat → List V → L2.St → Hp → Prop) (h0 : Pv 0 [] τ H) (hl : ∀ i ys τ H, Pv i ys τ H → SqL K H a xs)
    (hs : ∀ i x ys τ H, xs[i]? = some x → Pv i ys τ H → g x τ H fun τ2 H2 => tf τ2 H2 fun b H3 => if b = true then te τ2 H3 fun y H4 => ys.length < sizeLine ∧ Pv (i + 1) (ys ++ [y]) τ2 H4 else Pv (i + 1) ys τ2 H3)
    (hd : ∀ ys τ H, Pv xs.length ys τ H → ∀ p, H p = none → Q (.ref p) (upd H p (.lst ys))) :
    CompGo (Itl K a) g tf te Q τ H := by
  refine ⟨fun i m ys τ H => m = xs.length - i ∧ i ≤ xs.length ∧ Pv i ys τ H, ⟨xs.length, by simp, Nat.zero_le _, h0⟩, ?_⟩
  rintro i m ys τ H ⟨rfl, hi, p⟩
  have q := hl i ys τ H p
  by_cases hlt : i < xs.length
  · refine .inr ⟨⟨xs, xs[i], q, by simp [hlt]⟩, Pv (i + 1), fun ys' τ' H' p' => ⟨xs.length - (i + 1), by omega, rfl, hlt, p'⟩, fun x H' y => ?_⟩
    obtain ⟨e, y⟩ := y
    subst e
    exact hs i x ys τ _ (y xs q) p
  · have e : i = xs.length := by omega
    subst e
    exact .inl ⟨⟨xs, q, Nat.le_refl _⟩, hd ys τ H p⟩
theorem comp_range {lo : Int} {n : Nat} {g : TG} {tf : TT} {te : TE} {τ : L2.St} {H : Hp} {Q : VK} (Pv : Nat → List V → L2.St → Hp → Prop) (h0 : Pv 0 [] τ H)
    (hs : ∀ i ys τ H, i < n → Pv i ys τ H → g (.int (lo + i)) τ H fun τ2 H2 => tf τ2 H2 fun b H3 => if b = true then te τ2 H3 fun y H4 => ys.length < sizeLine ∧ Pv (i + 1) (ys ++ [y]) τ2 H4 else Pv (i + 1) ys τ2 H3)
    (hd : ∀ ys τ H, Pv n ys τ H → ∀ p, H p = none → Q (.ref p) (upd H p (.lst ys))) :
    CompGo (Itr lo n) g tf te Q τ H := by
  refine ⟨fun i m ys τ H => m = n - i ∧ i ≤ n ∧ Pv i ys τ H, ⟨n, by simp, Nat.zero_le _, h0⟩, ?_⟩
  rintro i m ys τ H ⟨rfl, hi, p⟩
  by_cases hlt : i < n
  · refine .inr ⟨hlt, Pv (i + 1), fun ys' τ' H' p' => ⟨n - (i + 1), by omega, rfl, hlt, p'⟩, fun x H' y => ?_⟩
    obtain ⟨e, y⟩ := y
    subst e y
    exact hs i ys τ _ hlt p
  · have e : i = n := by omega
    subst e
    exact .inl ⟨Nat.le_refl _, hd ys τ H p⟩
end L3

/-! min and max of a list of texts. -/
namespace L3
open PySem PySem.Spec PyProof.Rows L2
theorem best_min (f : Nat → List Nat) : ∀ k i, i ≤ k → ¬ f i < f (argBest (fun i j => decide (f i < f j)) k)
  | 0, i, h => by
    have : i = 0 := by omega
    subst this
    exact List.lt_irrefl _
  | k + 1, i, h => by
    have ih := best_min f k
    unfold argBest
    by_cases c : f (k + 1) < f (argBest (fun i j => decide (f i < f j)) k)
    · rw [if_pos (decide_eq_true c)]
      by_cases e : i = k + 1
      · subst e; exact List.lt_irrefl _
      · exact fun l => ih i (by omega) (List.lt_trans l c)
    · rw [if_neg (by simpa using c)]
      by_cases e : i = k + 1
      · subst e; exact c
      · exact ih i (by omega)
theorem best_max (f : Nat → List Nat) : ∀ k i, i ≤ k → ¬ f (argBest (fun i j => decide (f j < f i)) k) < f i
  | 0, i, h => by
    have : i = 0 := by omega
    subst this
    exact List.lt_irrefl _
  | k + 1, i, h => by
    have ih := best_max f k
    unfold argBest
    by_cases c : f (argBest (fun i j => decide (f j < f i)) k) < f (k + 1)
    · rw [if_pos (decide_eq_true c)]
      by_cases e : i = k + 1
      · subst e; exact List.lt_irrefl _
      · exact fun l => ih i (by omega) (List.lt_trans c l)
    · rw [if_neg (by simpa using c)]
      by_cases e : i = k + 1
      · subst e; exact c
      · exact ih i (by omega)
section
variable {prog : Program} {w : World} {A : Around} {E : Value → Shared → Prop} {s : Shared} {l : Addr} {xs : Array Value}
theorem iter_anyList {Q : Value → Shared → Prop} (hl : s.heap.IsList l xs)
    (h : ∀ s₂ : Shared, s₂ = { s with heap := s.heap.push { cls := .type "list_iterator", data := .fields #[.ref l, .int 0 0] } } →
      (s₂.heap.IsListIter s.heap.objs.size l 0 ∧ s₂.heap.IsList l xs) → (∀ b ∈ [s.heap.objs.size, l], b < s₂.heap.objs.size) → l ≠ s.heap.objs.size → Q (.ref s.heap.objs.size) s₂) :
    wpAny (model prog w) A (pyIter (.ref l)) Q E s := by
  have hlt : l < s.heap.objs.size := by obtain ⟨_, e, _⟩ := hl; exact Heap.lt_size e
  refine wpAny_pyIter_list hl (h _ rfl ⟨⟨_, Heap.get?_push_size _ rfl, rfl, rfl⟩, hl.push _⟩ (fun b hb => ?_) (Nat.ne_of_lt hlt))
  show b < (s.heap.push _).objs.size
  rw [Heap.size_push]
  rcases List.mem_cons.mp hb with rfl | hb
  · exact Nat.lt_succ_self _
  · rcases List.mem_cons.mp hb with rfl | hb
    · exact Nat.lt_succ_of_lt hlt
    · cases hb
end
section
variable {X : Cx}
theorem strsAre_of : ∀ {xs : List Str} {us : List Value}, Vals (xs.map V.str) us → StrsAre us xs
  | [], _, r => by cases r; exact .nil
  | x :: xs, _, r => by
    cases r with
    | cons r1 r2 =>
      obtain ⟨t, rfl⟩ := r1
      exact .cons x t (strsAre_of r2)
def rJoin (K : PySem.W.Frag) : V → List V → Hp → VK → Prop := fun x vs H Q => ∃ z p ys, x = .str z ∧ vs = [.ref p] ∧ SqL K H p (ys.map V.str) ∧ (ys.map (·.length)).sum + ys.length * z.length ≤ 16777216 ∧ Q (.str (Txt.join z ys)) H
theorem mt_join : MtR X "str.join" (rJoin X.K) := by
  intro pins s σ H x vs v us Q I rx rv h
  obtain ⟨z, p, ys, rfl, rfl, hq, hz, q⟩ := h
  obtain ⟨t, rfl⟩ := rx
  obtain ⟨u, rfl, ru⟩ := vals1 rv
  cases ru
  obtain ⟨its, ri, pl, _⟩ := I.list hq
  exact join_list pl.isList (by simpa using strsAre_of ri) hz fun t' k => ⟨.str (Txt.join z ys), H, I.tok _, ⟨_, rfl⟩, q⟩
end
end L3

/-! xs[::-1] of a list. -/
namespace L3
open PySem PySem.Spec PyProof.Rows L2
section
variable {X : Cx} {e st : Expr} {te ts : TE} {pos p2 : Pos}
end
end L3

/-! min and max of a text; all of a list of truths. -/
namespace L3
open PySem PySem.Spec PyProof.Rows L2
def letAt (z : Str) (i : Nat) : List Nat := [(z.cps[i]?).getD 0]
theorem letAt_eq {z : Str} {i c : Nat} (h : z.cps[i]? = some c) : letAt z i = [c] := by unfold letAt; rw [h]; rfl
theorem cmp_lt_let {prog : Program} {w : World} {A : Around} {z : Str} : CmpOf prog w A .Lt (SignAt z) (fun i j => decide (letAt z i < letAt z j)) := fun i j vi vj s Q E hi hj h => by
  obtain ⟨c, t, ec, rfl⟩ := hi
  obtain ⟨d, u, ed, rfl⟩ := hj
  have h' : Q (.bool (decide (letAt z i < letAt z j))) s := h
  rw [letAt_eq ec, letAt_eq ed] at h'
  exact lt_str h'
theorem cmp_gt_let {prog : Program} {w : World} {A : Around} {z : Str} : CmpOf prog w A .Gt (SignAt z) (fun i j => decide (letAt z j < letAt z i)) := fun i j vi vj s Q E hi hj h => by
  obtain ⟨c, t, ec, rfl⟩ := hi
  obtain ⟨d, u, ed, rfl⟩ := hj
  have h' : Q (.bool (decide (letAt z j < letAt z i))) s := h
  rw [letAt_eq ec, letAt_eq ed] at h'
  exact PySem.P.gt_str h'
theorem let_lt (a b : Nat) : ([a] : List Nat) < [b] ↔ a < b := by
  constructor
  · intro h
    cases h with
    | rel h => exact h
    | cons h => cases h
  · intro h; exact .rel h
section
variable {X : Cx}
def rMinS : List V → Hp → VK → Prop := fun xs H Q => ∃ z : Str, xs = [.str z] ∧ cl z ≠ [] ∧ ∀ c ∈ cl z, (∀ y ∈ cl z, c ≤ y) → Q (.str ⟨#[c]⟩) H
def rMaxS : List V → Hp → VK → Prop := fun xs H Q => ∃ z : Str, xs = [.str z] ∧ cl z ≠ [] ∧ ∀ c ∈ cl z, (∀ y ∈ cl z, y ≤ c) → Q (.str ⟨#[c]⟩) H
theorem call_minS (hc : X.calm = true) : CallR X (.builtin "min") rMinS := by
  intro pins s σ H xs us Q I r h
  obtain ⟨z, rfl, hne, q⟩ := h
  obtain ⟨u, rfl, t, rfl⟩ := vals1 r
  have hpos : 0 < z.cps.size := by
    have := List.length_pos_iff.mpr hne
    rwa [cl_length] at this
  refine call_min_walk (wpAny_pyIter_str fun o St W st => ?_)
  refine ⟨_, _, _, _, _, _, _, rfl, W X.A.in1 (I.ok.hd hc), st, fun b hb => ?_, hpos, cmp_lt_let, fun v h' tk hP hk => ?_⟩
  · rw [List.mem_singleton.mp hb]
    show _ < (s.heap.push o).objs.size
    rw [Heap.size_push]; exact Nat.lt_succ_self _
  obtain ⟨c, t', ec, rfl⟩ := hP
  have em : (cl z)[argBest (fun i j => decide (letAt z i < letAt z j)) (z.cps.size - 1)]? = some c := by
    show z.cps.toList[_]? = _
    rw [Array.getElem?_toList]; exact ec
  refine ⟨.str ⟨#[c]⟩, H, I.kept (t' := tk) (fun b o' e => hk b o' (fun z' => ?_) (Heap.get?_push_of_some _ e)), ⟨t', rfl⟩, q c (List.mem_of_getElem? em) fun y hy => ?_⟩
  · rw [List.mem_singleton.mp z'] at e
    exact absurd (Heap.lt_size e) (Nat.lt_irrefl _)
  · obtain ⟨i, hi, rfl⟩ := List.getElem_of_mem hy
    have hi' : i < z.cps.size := by rwa [cl_length] at hi
    have b := best_min (letAt z) (z.cps.size - 1) i (by omega)
    have ei : z.cps[i]? = some (cl z)[i] := by rw [← Array.getElem?_toList]; exact List.getElem?_eq_getElem hi
    rw [letAt_eq ec, letAt_eq ei, let_lt] at b
    omega
theorem call_maxS (hc : X.calm = true) : CallR X (.builtin "max") rMaxS := by
  intro pins s σ H xs us Q I r h
  obtain ⟨z, rfl, hne, q⟩ := h
  obtain ⟨u, rfl, t, rfl⟩ := vals1 r
  have hpos : 0 < z.cps.size := by
    have := List.length_pos_iff.mpr hne
    rwa [cl_length] at this
  refine call_max_walk (wpAny_pyIter_str fun o St W st => ?_)
  refine ⟨_, _, _, _, _, _, _, rfl, W X.A.in1 (I.ok.hd hc), st, fun b hb => ?_, hpos, cmp_gt_let, fun v h' tk hP hk => ?_⟩
  · rw [List.mem_singleton.mp hb]
    show _ < (s.heap.push o).objs.size
    rw [Heap.size_push]; exact Nat.lt_succ_self _
  obtain ⟨c, t', ec, rfl⟩ := hP
  have em : (cl z)[argBest (fun i j => decide (letAt z j < letAt z i)) (z.cps.size - 1)]? = some c := by
    show z.cps.toList[_]? = _
    rw [Array.getElem?_toList]; exact ec
  refine ⟨.str ⟨#[c]⟩, H, I.kept (t' := tk) (fun b o' e => hk b o' (fun z' => ?_) (Heap.get?_push_of_some _ e)), ⟨t', rfl⟩, q c (List.mem_of_getElem? em) fun y hy => ?_⟩
  · rw [List.mem_singleton.mp z'] at e
    exact absurd (Heap.lt_size e) (Nat.lt_irrefl _)
  · obtain ⟨i, hi, rfl⟩ := List.getElem_of_mem hy
    have hi' : i < z.cps.size := by rwa [cl_length] at hi
    have b := best_max (letAt z) (z.cps.size - 1) i (by omega)
    have ei : z.cps[i]? = some (cl z)[i] := by rw [← Array.getElem?_toList]; exact List.getElem?_eq_getElem hi
    rw [letAt_eq ec, letAt_eq ei, let_lt] at b
    omega
end
end L3
namespace L3
open PySem PySem.Spec PyProof.Rows L2
theorem vals_bls : ∀ {bs : List Bool} {us : List Value}, Vals (bs.map V.bl) us → ∀ (i : Nat) v, us[i]? = some v → ∃ b, bs[i]? = some b ∧ v = .bool b
  | [], _, r, i, v, e => by cases r; simp at e
  | b :: bs, _, r, i, v, e => by
    cases r with
    | cons r1 r2 =>
      cases i with
      | zero => simp at e; subst e; exact ⟨b, rfl, r1⟩
      | succ i =>
        obtain ⟨b', h1, h2⟩ := vals_bls r2 i v (by simpa using e)
        exact ⟨b', by simpa using h1, h2⟩
theorem range_all : ∀ bs : List Bool, (List.range bs.length).all (fun i => (bs[i]?).getD false) = bs.all id := fun bs => by
  rw [Bool.eq_iff_iff, List.all_eq_true, List.all_eq_true]
  constructor
  · intro h x hx
    obtain ⟨i, hi, rfl⟩ := List.getElem_of_mem hx
    have := h i (List.mem_range.mpr hi)
    rw [List.getElem?_eq_getElem hi] at this
    exact this
  · intro h i hi
    have hi' := List.mem_range.mp hi
    rw [List.getElem?_eq_getElem hi']
    exact h _ (List.getElem_mem hi')
theorem bt_all : bootBuiltins "all" = some (.builtin "all") := by decide +kernel
section
variable {X : Cx}
theorem call_allB (hc : X.calm = true) : CallR X (.builtin "all") (fun xs H Q => ∃ (p : Addr) (bs : List Bool), xs = [.ref p] ∧ SqL X.K H p (bs.map V.bl) ∧ Q (.bl (bs.all id)) H) := by
  intro pins s σ H zs us Q I r h
  obtain ⟨p, bs, rfl, hq, q⟩ := h
  obtain ⟨u, rfl, rx⟩ := vals1 r
  cases rx
  obtain ⟨its, rv, pl, hz⟩ := I.list hq
  have hlen : bs.length = its.length := by rw [← rv.length, List.length_map]
  refine call_all_walk (iter_anyList pl.isList fun s₂ e st hfp hlI => ?_)
  subst e
  refine ⟨_, _, _, _, _, _, fun i => (bs[i]?).getD false, rfl, Walks.list (A := X.A.in1) (I.ok.hd hc) _ p hlI its.toArray, st, fun i v s Q E hP hQ => ?_, fun h' tk hk => ?_⟩
  · obtain ⟨b, eb, rfl⟩ := vals_bls rv i v (by simpa using hP)
    have hQ' : Q ((bs[i]?).getD false) s := hQ
    rw [eb] at hQ'
    unfold truthy
    exact wpAny_pure hQ'
  · have e : (List.range its.toArray.size).all (fun i => (bs[i]?).getD false) = bs.all id := by rw [List.size_toArray, ← hlen]; exact range_all bs
    rw [e]
    exact ⟨.bl _, H, I.kept (old_kept hk), rfl, q⟩
end
end L3

/-! a text so many times. -/
namespace L3
open PySem PySem.Spec PyProof.Rows L2
section
variable {X : Cx}
def rMulS : R2 := fun x y H Q => ∃ (z : Str) (n : Int), x = .str z ∧ y = .int n ∧ 1 ≤ n ∧ n ≤ 1000 ∧ z.length ≤ 100 ∧ Q (.str (Txt.mul z n)) H
theorem op_mul_str : OpR X (binaryOp .Mult) rMulS := by
  intro pins s σ H x y v u Q I rx ry h
  obtain ⟨z, n, rfl, rfl, n0, n1, hz, q⟩ := h
  obtain ⟨t, rfl⟩ := rx
  obtain ⟨t', rfl⟩ := ry
  refine SB.mul ⟨?_, fun _ _ => ?_, fun _ _ => ?_⟩ fun t' k => ⟨.str (Txt.mul z n), H, I.tok _, ⟨_, rfl⟩, q⟩
  · rw [decide_eq_false (by omega), decide_eq_false (by omega)]; rfl
  · have h1 : (9223372036854775 : Int) ≤ (2 ^ 63 - 1) / n := by
      refine (Int.le_ediv_iff_mul_le (by omega)).mpr ?_
      have : (9223372036854775 : Int) * n ≤ 9223372036854775 * 1000 := Int.mul_le_mul_of_nonneg_left n1 (by decide)
      omega
    omega
  · have h2 : z.length * n.toNat ≤ 100 * 1000 := Nat.mul_le_mul hz (by omega)
    have h3 : (sizeLine : Nat) ≥ 100000 := by decide
    unfold Builtin.Str.tooLong
    exact decide_eq_false (by omega)
theorem mul_len (z : Str) (n : Int) (h : 1 ≤ n) : ((Txt.mul z n).length : Int) = (z.length : Int) * n := by
  rw [len_mul, if_neg (by simp; omega)]
end
end L3

/-! The table of a set: where a hash is looked for, and that the first free place is found. -/
namespace ST
open PySem PySem.SetTable
def it : Nat → Nat → Nat
  | 0, x => x
  | n + 1, x => it n (5 * x + 1)
theorem it_add : ∀ m n x, it (m + n) x = it n (it m x)
  | 0, n, x => by rw [Nat.zero_add]; rfl
  | m + 1, n, x => by rw [Nat.succ_add]; exact it_add m n (5 * x + 1)
theorem it_pow (k : Nat) : ∃ a, a % 2 = 1 ∧ ∀ y, it (2 ^ k) y = y + 2 ^ k * a * (4 * y + 1) := by
  induction k with
  | zero => exact ⟨1, rfl, fun y => by show 5 * y + 1 = y + 1 * 1 * (4 * y + 1); omega⟩
  | succ k ih =>
    obtain ⟨a, ha, h⟩ := ih
    refine ⟨a * (1 + 2 ^ (k + 1) * a), ?_, fun y => ?_⟩
    · rw [Nat.mul_mod, ha, Nat.pow_succ, Nat.mul_comm (2 ^ k) 2, Nat.mul_assoc]
      omega
    · rw [Nat.pow_succ, Nat.mul_two, it_add, h, h]
      grind
theorem reach_mod (k : Nat) : ∀ x j, j < 2 ^ k → ∃ n, n < 2 ^ k ∧ it n x % 2 ^ k = j := by
  induction k with
  | zero => intro x j h; exact ⟨0, by decide, by simp at h; subst h; simp [Nat.mod_one]⟩
  | succ k ih =>
    intro x j h
    have hp : 0 < 2 ^ k := Nat.two_pow_pos k
    have e : 2 ^ (k + 1) = 2 ^ k * 2 := Nat.pow_succ ..
    obtain ⟨n, hn, hx⟩ := ih x (j % 2 ^ k) (Nat.mod_lt _ hp)
    obtain ⟨a, ha, hi⟩ := it_pow k
    rw [e] at h ⊢
    generalize 2 ^ k = N at *
    have small : ∀ r, r < N * 2 → r % N = if r < N then r else r - N := fun r hr => by
      split
      · exact Nat.mod_eq_of_lt ‹_›
      · rw [Nat.mod_eq_sub_mod (by omega), Nat.mod_eq_of_lt (by omega)]
    have r0 : it n x % (N * 2) < N * 2 := Nat.mod_lt _ (by omega)
    have r1 : it n x % (N * 2) % N = j % N := by rw [Nat.mod_mod_of_dvd _ ⟨2, rfl⟩]; exact hx
    rw [small _ r0, small _ h] at r1
    by_cases c : it n x % (N * 2) = j
    · exact ⟨n, by omega, c⟩
    · refine ⟨n + N, by omega, ?_⟩
      have odd : ∃ b, a * (4 * it n x + 1) = 2 * b + 1 := by
        obtain ⟨c', rfl⟩ : ∃ c', a = 2 * c' + 1 := ⟨a / 2, by omega⟩
        exact ⟨c' * (4 * it n x + 1) + 2 * it n x, by grind⟩
      obtain ⟨b, hb⟩ := odd
      have e2 : it (n + N) x = it n x + N + N * 2 * b := by
        rw [it_add, hi, Nat.mul_assoc, hb]; grind
      rw [e2, Nat.add_mul_mod_self_left, Nat.add_mod, Nat.mod_eq_of_lt (show N < N * 2 by omega)]
      generalize it n x % (N * 2) = r at *
      split at r1 <;> split at r1
      · omega
      · have : j = r + N := by omega
        rw [this, Nat.mod_eq_of_lt (by omega)]
      · have : r = j + N := by omega
        rw [this, show j + N + N = j + N * 2 by omega, Nat.add_mod_right, Nat.mod_eq_of_lt h]
      · omega

/-! ### the places that are looked at -/
def adv (mask : Nat) (p : Probe) : Probe :=
  if p.more > 0 then { p with j := p.j + 1, more := p.more - 1 } else
  { p with j := (leap mask p.i p.perturb).1, more := runEnd mask (leap mask p.i p.perturb).1 - (leap mask p.i p.perturb).1, i := (leap mask p.i p.perturb).1, perturb := (leap mask p.i p.perturb).2 }
theorem advance_eq (t : SetTable) (p : Probe) : t.advance p = adv t.mask p := by
  unfold advance adv
  split <;> rfl
def blockAt (mask i perturb : Nat) : Probe := { j := i, more := runEnd mask i - i, i, perturb, dummy := none }
def st (mask : Nat) (h : Int) : Probe := blockAt mask (bits h % (mask + 1)) (bits h)
def itr (mask : Nat) : Nat → Probe → Probe
  | 0, p => p
  | n + 1, p => itr mask n (adv mask p)
theorem itr_succ (mask : Nat) : ∀ n p, itr mask (n + 1) p = adv mask (itr mask n p)
  | 0, _ => rfl
  | n + 1, p => itr_succ mask n (adv mask p)
theorem itr_add (mask : Nat) : ∀ m n p, itr mask (m + n) p = itr mask n (itr mask m p)
  | 0, n, p => by rw [Nat.zero_add]; rfl
  | m + 1, n, p => by rw [Nat.succ_add]; exact itr_add mask m n (adv mask p)
def pos (mask : Nat) (h : Int) (n : Nat) : Nat := (itr mask n (st mask h)).j
theorem itr_run (mask : Nat) : ∀ r (p : Probe), r ≤ p.more → itr mask r p = { p with j := p.j + r, more := p.more - r }
  | 0, p, _ => rfl
  | r + 1, p, h => by
    show itr mask r (adv mask p) = _
    have e : adv mask p = { p with j := p.j + 1, more := p.more - 1 } := by unfold adv; rw [if_pos (by omega)]
    rw [e, itr_run mask r _ (by show r ≤ p.more - 1; omega)]
    show ({ j := p.j + 1 + r, more := p.more - 1 - r, i := p.i, perturb := p.perturb, dummy := p.dummy } : Probe) = { j := p.j + (r + 1), more := p.more - (r + 1), i := p.i, perturb := p.perturb, dummy := p.dummy }
    congr 1 <;> omega
theorem more_le (mask i : Nat) : runEnd mask i - i ≤ 9 := by unfold runEnd; split <;> omega
theorem itr_block (mask i perturb : Nat) : itr mask (runEnd mask i - i + 1) (blockAt mask i perturb) = blockAt mask (leap mask i perturb).1 (leap mask i perturb).2 := by
  rw [itr_succ, itr_run mask (runEnd mask i - i) (blockAt mask i perturb) (show runEnd mask i - i ≤ runEnd mask i - i from Nat.le_refl _)]
  unfold adv
  rw [if_neg (by show ¬ (runEnd mask i - i - (runEnd mask i - i) > 0); omega)]
  rfl
def bk (mask : Nat) : Nat → Nat × Nat → Nat × Nat
  | 0, x => x
  | m + 1, x => bk mask m (leap mask x.1 x.2)
theorem bk_add (mask : Nat) : ∀ m n x, bk mask (m + n) x = bk mask n (bk mask m x)
  | 0, n, x => by rw [Nat.zero_add]; rfl
  | m + 1, n, x => by rw [Nat.succ_add]; exact bk_add mask m n _
theorem block_at (mask : Nat) : ∀ m i p, ∃ n, n ≤ 10 * m ∧ itr mask n (blockAt mask i p) = blockAt mask (bk mask m (i, p)).1 (bk mask m (i, p)).2
  | 0, i, p => ⟨0, Nat.zero_le _, rfl⟩
  | m + 1, i, p => by
    obtain ⟨n, hn, e⟩ := block_at mask m (leap mask i p).1 (leap mask i p).2
    have h9 := more_le mask i
    refine ⟨runEnd mask i - i + 1 + n, by omega, ?_⟩
    rw [itr_add, itr_block, e]
    rfl
theorem bk_perturb (mask : Nat) : ∀ m i p, (bk mask m (i, p)).2 = p / 32 ^ m
  | 0, i, p => by simp [bk]
  | m + 1, i, p => by
    show (bk mask m ((leap mask i p).1, (leap mask i p).2)).2 = _
    rw [bk_perturb mask m]
    show p / 32 / 32 ^ m = p / 32 ^ (m + 1)
    rw [Nat.div_div_eq_div_mul, Nat.pow_succ, Nat.mul_comm]
theorem bk_zero (mask : Nat) : ∀ m x, x < mask + 1 → (bk mask m (x, 0)).1 = it m x % (mask + 1)
  | 0, x, h => by show x = x % (mask + 1); rw [Nat.mod_eq_of_lt h]
  | m + 1, x, h => by
    show (bk mask m ((x * 5 + 1 + 0 / 32) % (mask + 1), 0 / 32)).1 = it m (5 * x + 1) % (mask + 1)
    rw [Nat.zero_div, Nat.add_zero, bk_zero mask m _ (Nat.mod_lt _ (by omega))]
    have go : ∀ m a b, a % (mask + 1) = b % (mask + 1) → it m a % (mask + 1) = it m b % (mask + 1) := fun m => by
      induction m with
      | zero => intro a b h; exact h
      | succ m ih => intro a b h; exact ih _ _ (by rw [Nat.add_mod, Nat.mul_mod, h, ← Nat.mul_mod, ← Nat.add_mod])
    refine go m _ _ ?_
    rw [Nat.mod_mod, Nat.mul_comm]
theorem bits_lt (h : Int) : bits h < 2 ^ 64 := by unfold bits; omega
theorem covers {mask k : Nat} (hm : mask + 1 = 2 ^ k) (h : Int) {j : Nat} (hj : j ≤ mask) : ∃ n, n < 10 * (mask + 14) ∧ pos mask h n = j := by
  have hp : (bk mask 13 (bits h % (mask + 1), bits h)).2 = 0 := by
    rw [bk_perturb]
    refine Nat.div_eq_of_lt (Nat.lt_of_lt_of_le (bits_lt h) (by decide))
  have hlt : (bk mask 13 (bits h % (mask + 1), bits h)).1 < mask + 1 := by
    show (bk mask (12 + 1) _).1 < _
    rw [bk_add]
    show (leap mask _ _).1 < _
    exact Nat.mod_lt _ (by omega)
  generalize hX : bk mask 13 (bits h % (mask + 1), bits h) = X at hp hlt
  obtain ⟨x, p⟩ := X
  dsimp only at hp hlt
  subst hp
  obtain ⟨n, hn, e⟩ := reach_mod k x j (by omega)
  rw [← hm] at hn e
  obtain ⟨m, hm', em⟩ := block_at mask (13 + n) (bits h % (mask + 1)) (bits h)
  refine ⟨m, by omega, ?_⟩
  show (itr mask m (st mask h)).j = j
  unfold st
  rw [em, bk_add, hX]
  show (bk mask n (x, 0)).1 = j
  rw [bk_zero _ _ _ hlt, e]
theorem least {P : Nat → Prop} : ∀ b, (∃ n, n < b ∧ P n) → ∃ n, n < b ∧ P n ∧ ∀ m, m < n → ¬ P m
  | 0, ⟨_, h, _⟩ => absurd h (Nat.not_lt_zero _)
  | b + 1, ⟨n, hn, hp⟩ => by
    rcases Classical.em (∃ n, n < b ∧ P n) with c | c
    · obtain ⟨m, h1, h2, h3⟩ := least b c
      exact ⟨m, by omega, h2, h3⟩
    · have e : n = b := by
        rcases Nat.lt_or_ge n b with z | z
        · exact absurd ⟨n, z, hp⟩ c
        · omega
      subst e
      exact ⟨n, by omega, hp, fun m hm q => c ⟨m, hm, q⟩⟩
theorem first_free {mask k : Nat} (hm : mask + 1 = 2 ^ k) (h : Int) {occ : List Nat} (ho : ∃ j, j ≤ mask ∧ j ∉ occ) : ∃ n, n < 10 * (mask + 14) ∧ pos mask h n ∉ occ ∧ ∀ m, m < n → pos mask h m ∈ occ := by
  obtain ⟨j, hj, hn⟩ := ho
  obtain ⟨n, h1, h2⟩ := covers hm h hj
  obtain ⟨m, a, b, c⟩ := least (P := fun n => pos mask h n ∉ occ) (10 * (mask + 14)) ⟨n, h1, by show pos mask h n ∉ occ; rw [h2]; exact hn⟩
  exact ⟨m, a, b, fun q hq => Classical.byContradiction fun z => c q hq z⟩
theorem pos_le (mask : Nat) (h : Int) : ∀ n, pos mask h n ≤ mask ∧ (itr mask n (st mask h)).j + (itr mask n (st mask h)).more ≤ mask
  | 0 => by
    have h1 : bits h % (mask + 1) < mask + 1 := Nat.mod_lt _ (by omega)
    refine ⟨by show bits h % (mask + 1) ≤ mask; omega, ?_⟩
    show bits h % (mask + 1) + (runEnd mask (bits h % (mask + 1)) - bits h % (mask + 1)) ≤ mask
    unfold runEnd; split <;> omega
  | n + 1 => by
    obtain ⟨_, ih⟩ := pos_le mask h n
    unfold pos
    rw [itr_succ]
    generalize itr mask n (st mask h) = p at *
    unfold adv
    split
    · exact ⟨by show p.j + 1 ≤ mask; omega, by show p.j + 1 + (p.more - 1) ≤ mask; omega⟩
    · have h1 : (leap mask p.i p.perturb).1 < mask + 1 := Nat.mod_lt _ (by omega)
      generalize (leap mask p.i p.perturb).1 = i at *
      refine ⟨by show i ≤ mask; omega, ?_⟩
      show i + (runEnd mask i - i) ≤ mask
      unfold runEnd; split <;> omega
theorem itr_dummy (mask : Nat) (h : Int) : ∀ n, (itr mask n (st mask h)).dummy = none
  | 0 => rfl
  | n + 1 => by
    rw [itr_succ]
    have ih := itr_dummy mask h n
    unfold adv
    split <;> exact ih
end ST

namespace ST
open PySem PySem.SetTable
def Ris (xs : List Nat) : Prop := xs.Pairwise (· < ·)
theorem Ris.get {xs : Array Nat} (hr : Ris xs.toList) {i j : Nat} (hi : i < xs.size) (hj : j < xs.size) (h : i < j) : xs[i] < xs[j] := by
  have := List.pairwise_iff_getElem.mp hr i j (by simpa using hi) (by simpa using hj) h
  simpa using this
theorem Ris.get_le {xs : Array Nat} (hr : Ris xs.toList) {i j : Nat} (hi : i < xs.size) (hj : j < xs.size) (h : i ≤ j) : xs[i] ≤ xs[j] := by
  rcases Nat.lt_or_ge i j with c | c
  · exact Nat.le_of_lt (hr.get hi hj c)
  · have : i = j := by omega
    subst this; exact Nat.le_refl _
def Split (xs : Array Nat) (j r : Nat) : Prop := r ≤ xs.size ∧ (∀ i (h : i < xs.size), i < r → xs[i] < j) ∧ ∀ i (h : i < xs.size), r ≤ i → j ≤ xs[i]
theorem below_go {xs : Array Nat} (hr : Ris xs.toList) (j : Nat) : ∀ fuel lo hi, lo ≤ hi → hi ≤ xs.size → hi - lo ≤ fuel → (∀ i (h : i < xs.size), i < lo → xs[i] < j) → (∀ i (h : i < xs.size), hi ≤ i → j ≤ xs[i]) → Split xs j (below.go xs j fuel lo hi)
  | 0, lo, hi, h1, h2, h3, a, b => by
    have : lo = hi := by omega
    subst this
    exact ⟨h2, a, b⟩
  | fuel + 1, lo, hi, h1, h2, h3, a, b => by
    unfold below.go
    by_cases c : lo < hi
    · rw [if_pos c]
      dsimp only
      have hm : (lo + hi) / 2 < xs.size := by omega
      rw [show xs.getD ((lo + hi) / 2) j = xs[(lo + hi) / 2] by simp [Array.getD, hm]]
      by_cases d : xs[(lo + hi) / 2] < j
      · rw [if_pos d]
        exact below_go hr j fuel _ _ (by omega) h2 (by omega) (fun i h q => Nat.lt_of_le_of_lt (hr.get_le h hm (by omega)) d) b
      · rw [if_neg d]
        exact below_go hr j fuel _ _ (by omega) (by omega) (by omega) a (fun i h q => Nat.le_trans (by omega) (hr.get_le hm h q))
    · rw [if_neg c]
      have : lo = hi := by omega
      subst this
      exact ⟨h2, a, b⟩
theorem below_spec {xs : Array Nat} (hr : Ris xs.toList) (j : Nat) : Split xs j (below xs j) :=
  below_go hr j _ _ _ (Nat.zero_le _) (Nat.le_refl _) (by omega) (fun i h q => absurd q (Nat.not_lt_zero _)) (fun i h q => absurd h (by omega))
theorem below_at {xs : Array Nat} (hr : Ris xs.toList) {i j : Nat} (h : xs[i]? = some j) : below xs j = i := by
  obtain ⟨hi, e⟩ := Array.getElem?_eq_some_iff.mp h
  obtain ⟨h1, h2, h3⟩ := below_spec hr j
  rcases Nat.lt_trichotomy (below xs j) i with c | c | c
  · have := h3 _ (by omega) (Nat.le_refl (below xs j))
    have := hr.get (i := below xs j) (j := i) (by omega) hi c
    omega
  · exact c
  · have := h2 i hi c
    omega
theorem slot_live {t : SetTable} (hr : Ris t.place.toList) {i j : Nat} (h : t.place[i]? = some j) : t.slot j = .live i := by
  unfold SetTable.slot
  dsimp only
  rw [below_at hr h, h]
  simp
theorem slot_empty {t : SetTable} (hd : t.dummies = #[]) {j : Nat} (h : j ∉ t.place.toList) : t.slot j = .empty := by
  unfold SetTable.slot
  dsimp only
  have e : (t.place[below t.place j]? == some j) = false := by
    rw [beq_eq_false_iff_ne]
    intro q
    obtain ⟨hi, e⟩ := Array.getElem?_eq_some_iff.mp q
    exact h (by rw [← e]; simp)
  rw [e, hd]
  simp [has]
theorem slot_mem {t : SetTable} (hr : Ris t.place.toList) {j : Nat} (h : j ∈ t.place.toList) : ∃ i, t.place[i]? = some j ∧ t.slot j = .live i := by
  obtain ⟨i, hi, e⟩ := List.getElem_of_mem h
  have : t.place[i]? = some j := by rw [← Array.getElem?_toList, List.getElem?_eq_getElem hi, e]
  exact ⟨i, this, slot_live hr this⟩
theorem pigeon : ∀ (n : Nat) (xs : List Nat), (∀ j, j < n → j ∈ xs) → n ≤ xs.length
  | 0, _, _ => Nat.zero_le _
  | n + 1, xs, h => by
    have hn := h n (by omega)
    have := pigeon n (xs.erase n) fun j hj => (List.mem_erase_of_ne (by omega)).mpr (h j (by omega))
    rw [List.length_erase_of_mem hn] at this
    have : 0 < xs.length := List.length_pos_of_mem hn
    omega
theorem some_free {mask : Nat} {xs : List Nat} (h : xs.length ≤ mask) : ∃ j, j ≤ mask ∧ j ∉ xs := by
  refine Classical.byContradiction fun c => ?_
  have := pigeon (mask + 1) xs fun j hj => Classical.byContradiction fun q => c ⟨j, by omega, q⟩
  omega
structure Good (t : SetTable) (hs : List Int) : Prop where
  pw : ∃ k, 3 ≤ k ∧ t.mask + 1 = 2 ^ k
  dum : t.dummies = #[]
  ris : Ris t.place.toList
  le : ∀ j ∈ t.place.toList, j ≤ t.mask
  len : t.place.size = hs.length
  room : t.place.size ≤ t.mask
  reach : ∀ x ∈ t.place.toList.zip hs, ∃ q, pos t.mask x.2 q = x.1 ∧ ∀ m, m < q → pos t.mask x.2 m ∈ t.place.toList
theorem Good.free {t : SetTable} {hs : List Int} (g : Good t hs) (h : Int) : ∃ n, n < 10 * (t.mask + 14) ∧ pos t.mask h n ∉ t.place.toList ∧ ∀ m, m < n → pos t.mask h m ∈ t.place.toList := by
  obtain ⟨k, _, hk⟩ := g.pw
  exact first_free hk h (some_free (by rw [Array.length_toList]; exact g.room))
theorem Good.odd {t : SetTable} {hs : List Int} (g : Good t hs) : t.gaveWay = false := by
  obtain ⟨k, h3, hk⟩ := g.pw
  obtain ⟨j, rfl⟩ : ∃ j, k = j + 1 := ⟨k - 1, by omega⟩
  rw [Nat.pow_succ] at hk
  unfold SetTable.gaveWay
  rw [beq_eq_false_iff_ne]
  omega
theorem Good.fits {t : SetTable} {hs : List Int} (g : Good t hs) : t.fits hs.length = true := by
  unfold SetTable.fits SetTable.fill
  rw [g.dum, g.len]
  have := g.room
  rw [g.len] at this
  simp [this]
theorem probe_go {t : SetTable} {hs : List Int} (g : Good t hs) (h : Int) {N : Nat} (hN : pos t.mask h N ∉ t.place.toList) (hO : ∀ m, m < N → pos t.mask h m ∈ t.place.toList) (hashAt : Nat → Int) :
    ∀ fuel q, q ≤ N → N - q < fuel →
      (probe.go t hashAt h fuel (itr t.mask q (st t.mask h)) = some (.empty (pos t.mask h N) none) ∧ ∀ m i, q ≤ m → m < N → t.slot (pos t.mask h m) = .live i → hashAt i ≠ h) ∨
      ∃ m i, q ≤ m ∧ m < N ∧ t.slot (pos t.mask h m) = .live i ∧ hashAt i = h ∧ probe.go t hashAt h fuel (itr t.mask q (st t.mask h)) = some (.candidate (pos t.mask h m) i (itr t.mask (m + 1) (st t.mask h))) ∧
        ∀ m' i, q ≤ m' → m' < m → t.slot (pos t.mask h m') = .live i → hashAt i ≠ h
  | 0, q, h1, h2 => absurd h2 (Nat.not_lt_zero _)
  | fuel + 1, q, h1, h2 => by
    unfold probe.go
    by_cases e : q = N
    · subst e
      rw [show t.slot (itr t.mask q (st t.mask h)).j = .empty from slot_empty g.dum hN]
      refine .inl ⟨?_, fun m i a b => absurd b (by omega)⟩
      show some (Met.empty (itr t.mask q (st t.mask h)).j (itr t.mask q (st t.mask h)).dummy) = _
      rw [itr_dummy]; rfl
    · obtain ⟨i, hi, hs'⟩ := slot_mem g.ris (hO q (by omega))
      rw [show t.slot (itr t.mask q (st t.mask h)).j = .live i from hs']
      dsimp only
      rw [show t.advance (itr t.mask q (st t.mask h)) = itr t.mask (q + 1) (st t.mask h) by rw [advance_eq, ← itr_succ]]
      by_cases c : hashAt i = h
      · rw [if_pos (by rw [c]; exact beq_self_eq_true h)]
        exact .inr ⟨q, i, Nat.le_refl _, by omega, hs', c, rfl, fun m' i a b => absurd b (by omega)⟩
      · rw [if_neg (by simpa using c)]
        rcases probe_go g h hN hO hashAt fuel (q + 1) (by omega) (by omega) with ⟨a, b⟩ | ⟨m, i', a1, a2, a3, a4, a5, a6⟩
        · refine .inl ⟨a, fun m i' h1' h2' h3' => ?_⟩
          by_cases z : m = q
          · subst z; rw [hs'] at h3'; cases h3'; exact c
          · exact b m i' (by omega) h2' h3'
        · refine .inr ⟨m, i', by omega, a2, a3, a4, a5, fun m' i'' h1' h2' h3' => ?_⟩
          by_cases z : m' = q
          · subst z; rw [hs'] at h3'; cases h3'; exact c
          · exact a6 m' i'' (by omega) h2' h3'
/-! ### one more -/
theorem toList_insertAt {α : Type} (xs : Array α) (p : Nat) (x : α) : (insertAt xs p x).toList = xs.toList.take p ++ x :: xs.toList.drop p := by
  unfold insertAt
  simp [Array.toList_extract, List.take_of_length_le]
theorem ris_insert {xs : Array Nat} (hr : Ris xs.toList) {j : Nat} (hn : j ∉ xs.toList) : Ris (insertAt xs (below xs j) j).toList := by
  obtain ⟨h1, h2, h3⟩ := below_spec hr j
  rw [toList_insertAt]
  unfold Ris at *
  have low : ∀ a ∈ xs.toList.take (below xs j), a < j := fun a ha => by
    obtain ⟨i, hi, e⟩ := List.getElem_of_mem ha
    rw [List.length_take] at hi
    rw [List.getElem_take] at e
    have := h2 i (by rw [Array.length_toList] at hi; omega) (by omega)
    rw [← e]; simpa using this
  have high : ∀ a ∈ xs.toList.drop (below xs j), j < a := fun a ha => by
    have hm := List.mem_of_mem_drop ha
    obtain ⟨i, hi, e⟩ := List.getElem_of_mem ha
    rw [List.length_drop, Array.length_toList] at hi
    rw [List.getElem_drop] at e
    have := h3 (below xs j + i) (by omega) (by omega)
    have e' : xs[below xs j + i] = a := by rw [← e]; simp
    rcases Nat.lt_or_ge j a with q | q
    · exact q
    · exact absurd (by rw [show j = a by omega]; exact hm) hn
  rw [List.pairwise_append]
  refine ⟨hr.sublist (List.take_sublist _ _), ?_, fun a ha b hb => ?_⟩
  · rw [List.pairwise_cons]
    exact ⟨high, hr.sublist (List.drop_sublist _ _)⟩
  · rcases List.mem_cons.mp hb with rfl | hb
    · exact low a ha
    · exact Nat.lt_trans (low a ha) (high b hb)
def insL {α : Type} (xs : List α) (p : Nat) (x : α) : List α := xs.take p ++ x :: xs.drop p
theorem insL_perm {α : Type} (xs : List α) (p : Nat) (x : α) : (insL xs p x).Perm (x :: xs) := by
  unfold insL
  refine List.perm_middle.trans ?_
  rw [List.take_append_drop]
theorem zip_insL {α β : Type} {xs : List α} {ys : List β} (h : xs.length = ys.length) (p : Nat) (x : α) (y : β) : (insL xs p x).zip (insL ys p y) = insL (xs.zip ys) p (x, y) := by
  unfold insL
  rw [List.zip_append (by simp [h]), List.zip_cons_cons]
  simp only [List.zip, List.take_zipWith, List.drop_zipWith]
theorem Good.put {t : SetTable} {hs : List Int} (g : Good t hs) {h : Int} {n : Nat} (hn : pos t.mask h n ∉ t.place.toList) (ho : ∀ m, m < n → pos t.mask h m ∈ t.place.toList) (hr : t.place.size < t.mask) (pl : Bool) :
    Good { (t.put (pos t.mask h n)).1 with plain := pl } (insL hs (below t.place (pos t.mask h n)) h) := by
  have hl : t.place.toList.length = hs.length := by rw [Array.length_toList]; exact g.len
  have e : (insertAt t.place (below t.place (pos t.mask h n)) (pos t.mask h n)).toList = insL t.place.toList (below t.place (pos t.mask h n)) (pos t.mask h n) := toList_insertAt _ _ _
  have mem : ∀ a, a ∈ (insertAt t.place (below t.place (pos t.mask h n)) (pos t.mask h n)).toList ↔ a = pos t.mask h n ∨ a ∈ t.place.toList := fun a => by
    rw [e, (insL_perm _ _ _).mem_iff, List.mem_cons]
  have ln : (insertAt t.place (below t.place (pos t.mask h n)) (pos t.mask h n)).size = t.place.size + 1 := by
    rw [← Array.length_toList, e, (insL_perm _ _ _).length_eq, List.length_cons, Array.length_toList]
  refine ⟨g.pw, ?_, ris_insert g.ris hn, fun j hj => ?_, ?_, ?_, fun x hx => ?_⟩
  · show (if has t.dummies (pos t.mask h n) = true then eraseAt t.dummies (below t.dummies (pos t.mask h n)) else t.dummies) = #[]
    rw [g.dum]; simp [has]
  · rcases (mem j).mp hj with rfl | q
    · exact (pos_le _ _ _).1
    · exact g.le j q
  · show (insertAt t.place _ _).size = _
    rw [ln, (insL_perm _ _ _).length_eq, List.length_cons, g.len]
  · show (insertAt t.place _ _).size ≤ t.mask
    rw [ln]; exact hr
  · show ∃ q, pos t.mask x.2 q = x.1 ∧ ∀ m, m < q → pos t.mask x.2 m ∈ (insertAt t.place _ _).toList
    have hx' : x ∈ (insertAt t.place (below t.place (pos t.mask h n)) (pos t.mask h n)).toList.zip (insL hs (below t.place (pos t.mask h n)) h) := hx
    rw [e, zip_insL hl, (insL_perm _ _ _).mem_iff, List.mem_cons] at hx'
    rcases hx' with rfl | q
    · exact ⟨n, rfl, fun m hm => (mem _).mpr (.inr (ho m hm))⟩
    · obtain ⟨q', a, b⟩ := g.reach x q
      exact ⟨q', a, fun m hm => (mem _).mpr (.inr (b m hm))⟩
end ST

namespace ST
open PySem PySem.SetTable
/-! ### all laid anew -/
abbrev Ow := Array (Option Nat)
def taken (o : Ow) : List Nat := (List.range o.size).filter fun j => (o.getD j none).isSome
theorem mem_taken {o : Ow} {j : Nat} : j ∈ taken o ↔ ∃ i, o[j]? = some (some i) := by
  unfold taken
  rw [List.mem_filter, List.mem_range]
  constructor
  · rintro ⟨h1, h2⟩
    have e : o.getD j none = o[j] := by simp [Array.getD, h1]
    rw [e] at h2
    obtain ⟨i, hi⟩ := Option.isSome_iff_exists.mp h2
    exact ⟨i, by rw [Array.getElem?_eq_getElem h1, hi]⟩
  · rintro ⟨i, hi⟩
    obtain ⟨h1, e⟩ := Array.getElem?_eq_some_iff.mp hi
    refine ⟨h1, ?_⟩
    simp [Array.getD, h1, e]
theorem free_test {o : Ow} {j : Nat} (h : j < o.size) : ((o.getD j (some 0)).isNone = true ↔ j ∉ taken o) := by
  rw [mem_taken]
  have e : o.getD j (some 0) = o[j] := by simp [Array.getD, h]
  rw [e, Array.getElem?_eq_getElem h]
  cases o[j] <;> simp
theorem free_go {mask : Nat} {o : Ow} (hsz : o.size = mask + 1) (h : Int) : ∀ m fuel i p n, m < fuel → i ≤ mask → itr mask n (st mask h) = blockAt mask i p → (bk mask m (i, p)).1 ∉ taken o →
    ∃ N, n ≤ N ∧ layClean.free mask o fuel i p = some (pos mask h N) ∧ pos mask h N ∉ taken o ∧ ∀ q, n ≤ q → q < N → pos mask h q ∈ taken o
  | m, 0, i, p, n, hf, hi, hn, hb => absurd hf (Nat.not_lt_zero _)
  | m, fuel + 1, i, p, n, hf, hi, hn, hb => by
    have hrun : ∀ k, k ≤ runEnd mask i - i → pos mask h (n + k) = i + k := fun k hk => by
      show (itr mask (n + k) (st mask h)).j = i + k
      rw [itr_add, hn, itr_run mask k (blockAt mask i p) hk]
      rfl
    have hre : i ≤ runEnd mask i ∧ runEnd mask i ≤ mask := by unfold runEnd; split <;> omega
    have ht : ∀ k, k ≤ runEnd mask i - i → ((o.getD (i + k) (some 0)).isNone = true ↔ pos mask h (n + k) ∉ taken o) := fun k hk => by
      rw [hrun k hk]; exact free_test (by omega)
    unfold layClean.free
    cases hf' : (List.range (runEnd mask i + 1 - i)).find? fun k => (o.getD (i + k) (some 0)).isNone with
    | some k =>
      obtain ⟨a, b, c⟩ := List.find?_range_eq_some.mp hf'
      rw [List.mem_range] at b
      refine ⟨n + k, by omega, ?_, (ht k (by omega)).mp a, fun q h1 h2 => ?_⟩
      · rw [hrun k (by omega)]
      · have d := c (q - n) (by omega)
        have z := ht (q - n) (by omega)
        rw [show n + (q - n) = q by omega] at z
        refine Classical.byContradiction fun y => ?_
        rw [z.mpr y] at d
        cases d
    | none =>
      have all : ∀ k, k ≤ runEnd mask i - i → pos mask h (n + k) ∈ taken o := fun k hk => by
        have d := List.find?_range_eq_none.mp hf' k (by omega)
        have z := ht k hk
        refine Classical.byContradiction fun y => ?_
        rw [z.mpr y] at d
        cases d
      dsimp only
      cases m with
      | zero =>
        have := all 0 (Nat.zero_le _)
        rw [hrun 0 (Nat.zero_le _)] at this
        exact absurd this hb
      | succ m =>
        have hl : (leap mask i p).1 ≤ mask := Nat.le_of_lt_succ (Nat.mod_lt _ (by omega))
        obtain ⟨N, a, b, c, d⟩ := free_go hsz h m fuel (leap mask i p).1 (leap mask i p).2 (n + (runEnd mask i - i + 1)) (by omega) hl (by rw [itr_add, hn, itr_block]) hb
        refine ⟨N, by omega, b, c, fun q h1 h2 => ?_⟩
        by_cases z : q < n + (runEnd mask i - i + 1)
        · have := all (q - n) (by omega)
          rwa [show n + (q - n) = q by omega] at this
        · exact d q (by omega) h2
theorem covers_bk {mask k : Nat} (hm : mask + 1 = 2 ^ k) (h : Int) {j : Nat} (hj : j ≤ mask) : ∃ m, m < mask + 15 ∧ (bk mask m (bits h % (mask + 1), bits h)).1 = j := by
  have hp : (bk mask 13 (bits h % (mask + 1), bits h)).2 = 0 := by
    rw [bk_perturb]
    refine Nat.div_eq_of_lt (Nat.lt_of_lt_of_le (bits_lt h) (by decide))
  have hlt : (bk mask 13 (bits h % (mask + 1), bits h)).1 < mask + 1 := by
    show (bk mask (12 + 1) _).1 < _
    rw [bk_add]
    show (leap mask _ _).1 < _
    exact Nat.mod_lt _ (by omega)
  generalize hX : bk mask 13 (bits h % (mask + 1), bits h) = X at hp hlt
  obtain ⟨x, p⟩ := X
  dsimp only at hp hlt
  subst hp
  obtain ⟨n, hn, e⟩ := reach_mod k x j (by omega)
  rw [← hm] at hn e
  refine ⟨13 + n, by omega, ?_⟩
  rw [bk_add, hX]
  show (bk mask n (x, 0)).1 = j
  rw [bk_zero _ _ _ hlt, e]
theorem free_some {mask k : Nat} (hm : mask + 1 = 2 ^ k) {o : Ow} (hsz : o.size = mask + 1) (ho : ∃ j, j ≤ mask ∧ j ∉ taken o) (h : Int) :
    ∃ N, layClean.free mask o (turns mask) (bits h % (mask + 1)) (bits h) = some (pos mask h N) ∧ pos mask h N ∉ taken o ∧ ∀ q, q < N → pos mask h q ∈ taken o := by
  obtain ⟨j, hj, hn⟩ := ho
  obtain ⟨m, h1, h2⟩ := covers_bk hm h hj
  obtain ⟨N, _, b, c, d⟩ := free_go hsz h m (turns mask) (bits h % (mask + 1)) (bits h) 0 (by unfold turns; omega) (Nat.le_of_lt_succ (Nat.mod_lt _ (by omega))) rfl (by rw [h2]; exact hn)
  exact ⟨N, b, c, fun q hq => d q (Nat.zero_le _) hq⟩
structure Laid (mask : Nat) (hs : List Int) (o : Ow) (n : Nat) : Prop where
  sz : o.size = mask + 1
  lt : ∀ j i : Nat, o[j]? = some (some i) → i < n
  all : ∀ i, i < n → ∃ j : Nat, o[j]? = some (some i)
  inj : ∀ j j' i : Nat, o[j]? = some (some i) → o[j']? = some (some i) → j = j'
  reach : ∀ (j i : Nat) (h : Int), o[j]? = some (some i) → hs[i]? = some h → ∃ q, pos mask h q = j ∧ ∀ m, m < q → pos mask h m ∈ taken o
theorem taken_length {mask : Nat} {hs : List Int} {o : Ow} {n : Nat} (L : Laid mask hs o n) : (taken o).length ≤ n := by
  -- an injective list of owners
  have hnd : (taken o).Nodup := List.Nodup.sublist List.filter_sublist List.nodup_range
  have key : ∀ (l : List Nat) (n : Nat), l.Nodup → (∀ j ∈ l, ∃ i : Nat, i < n ∧ o[j]? = some (some i)) → l.length ≤ n := by
    intro l
    induction l with
    | nil => intro n _ _; exact Nat.zero_le _
    | cons a r ih =>
      intro n hd hl
      have own : ∀ j ∈ a :: r, ∃ i : Nat, i < n ∧ o[j]? = some (some i) := hl
      let f : Nat → Nat := fun j => match o[j]? with | some (some i) => i | _ => 0
      have hf : ∀ j ∈ a :: r, o[j]? = some (some (f j)) := fun j hj => by
        obtain ⟨i, _, e⟩ := own j hj
        show o[j]? = some (some (match o[j]? with | some (some i) => i | _ => 0))
        rw [e]
      have h1 : ((a :: r).map f).Nodup := by
        rw [List.nodup_iff_pairwise_ne, List.pairwise_map]
        refine List.Pairwise.imp_of_mem (R := fun x y => x ≠ y) (fun {x y} hx hy hne e => hne ?_) (List.nodup_iff_pairwise_ne.mp hd)
        exact L.inj x y (f x) (hf x hx) (by rw [e]; exact hf y hy)
      have h2 : ∀ i ∈ (a :: r).map f, i < n := fun i hi => by
        obtain ⟨j, hj, rfl⟩ := List.mem_map.mp hi
        obtain ⟨i', h, e⟩ := own j hj
        have := hf j hj
        rw [e] at this; cases this; exact h
      have p : ((a :: r).map f).length ≤ (List.range n).length := List.Nodup.length_le_of_subset h1 fun i hi => List.mem_range.mpr (h2 i hi)
      rwa [List.length_map, List.length_range] at p
  exact key _ n hnd fun j hj => let ⟨i, e⟩ := mem_taken.mp hj; ⟨i, L.lt j i e, e⟩
end ST

namespace ST
open PySem PySem.SetTable
theorem taken_set {o : Ow} {j n : Nat} (hj : j < o.size) (a : Nat) : a ∈ taken (o.setIfInBounds j (some n)) ↔ a = j ∨ a ∈ taken o := by
  rw [mem_taken, mem_taken]
  by_cases e : a = j
  · subst e
    simp [Array.getElem?_setIfInBounds, hj]
  · have : (o.setIfInBounds j (some n))[a]? = o[a]? := by rw [Array.getElem?_setIfInBounds, if_neg (fun h => e h.symm)]
    rw [this]; simp [e]
theorem Laid.more {mask k : Nat} {hs : List Int} {o : Ow} {n : Nat} (hm : mask + 1 = 2 ^ k) (L : Laid mask hs o n) (hn : n ≤ mask) {h : Int} (hh : hs[n]? = some h) :
    ∃ j, layClean.free mask o (turns mask) (bits h % (mask + 1)) (bits h) = some j ∧ Laid mask hs (o.setIfInBounds j (some n)) (n + 1) := by
  obtain ⟨N, a, b, c⟩ := free_some hm L.sz (some_free (Nat.le_trans (taken_length L) hn)) h
  have hj : pos mask h N < o.size := by rw [L.sz]; exact Nat.lt_succ_of_le (pos_le mask h N).1
  refine ⟨_, a, ?_⟩
  generalize hJ : pos mask h N = J at *
  have at_ : ∀ x i : Nat, (o.setIfInBounds J (some n))[x]? = some (some i) → (x = J ∧ i = n) ∨ (x ≠ J ∧ o[x]? = some (some i)) := fun x i e => by
    rw [Array.getElem?_setIfInBounds] at e
    by_cases z : J = x
    · subst z
      rw [if_pos rfl, if_pos hj] at e
      cases e; exact .inl ⟨rfl, rfl⟩
    · rw [if_neg z] at e
      exact .inr ⟨fun q => z q.symm, e⟩
  have hJf : ∀ i, o[J]? ≠ some (some i) := fun i e => b (mem_taken.mpr ⟨i, e⟩)
  refine ⟨by rw [Array.size_setIfInBounds]; exact L.sz, fun x i e => ?_, fun i hi => ?_, fun x y i e1 e2 => ?_, fun x i h' e1 e2 => ?_⟩
  · rcases at_ x i e with ⟨_, rfl⟩ | ⟨_, e⟩
    · exact Nat.lt_succ_self _
    · exact Nat.lt_succ_of_lt (L.lt x i e)
  · by_cases z : i = n
    · subst z
      exact ⟨J, by rw [Array.getElem?_setIfInBounds, if_pos rfl, if_pos hj]⟩
    · obtain ⟨x, e⟩ := L.all i (by omega)
      refine ⟨x, ?_⟩
      rw [Array.getElem?_setIfInBounds, if_neg (fun q => by subst q; exact hJf i e)]
      exact e
  · rcases at_ x i e1 with ⟨rfl, rfl⟩ | ⟨n1, f1⟩
    · rcases at_ y i e2 with ⟨rfl, _⟩ | ⟨n2, e2⟩
      · rfl
      · exact absurd (L.lt y i e2) (Nat.lt_irrefl _)
    · rcases at_ y i e2 with ⟨rfl, rfl⟩ | ⟨n2, f2⟩
      · exact absurd (L.lt x i f1) (Nat.lt_irrefl _)
      · exact L.inj x y i f1 f2
  · rcases at_ x i e1 with ⟨rfl, rfl⟩ | ⟨n1, e1⟩
    · rw [hh] at e2; cases e2
      exact ⟨N, hJ, fun m hm => (taken_set hj _).mpr (.inr (c m hm))⟩
    · obtain ⟨q, q1, q2⟩ := L.reach x i h' e1 e2
      exact ⟨q, q1, fun m hm => (taken_set hj _).mpr (.inr (q2 m hm))⟩
theorem layClean_fold {mask k : Nat} (hm : mask + 1 = 2 ^ k) {hs : List Int} (hl : hs.length ≤ mask + 1) : ∀ (rest pre : List Int) (o : Ow), hs = pre ++ rest → Laid mask hs o pre.length →
    ∃ o', rest.foldl (fun acc h => do let (owner, k) ← acc; let j ← layClean.free mask owner (turns mask) (bits h % (mask + 1)) (bits h); pure (owner.setIfInBounds j (some k), k + 1)) (some (o, pre.length)) = some (o', hs.length) ∧ Laid mask hs o' hs.length
  | [], pre, o, e, L => by
    rw [List.append_nil] at e; subst e
    exact ⟨o, rfl, L⟩
  | h :: rest, pre, o, e, L => by
    have hh : hs[pre.length]? = some h := by rw [e]; simp
    have hlen : pre.length ≤ mask := by
      have := congrArg List.length e
      rw [List.length_append, List.length_cons] at this
      omega
    obtain ⟨j, a, b⟩ := L.more hm hlen hh
    obtain ⟨o', c, d⟩ := layClean_fold hm hl rest (pre ++ [h]) (o.setIfInBounds j (some pre.length)) (by rw [List.append_assoc]; exact e) (by rw [List.length_append]; exact b)
    refine ⟨o', ?_, d⟩
    rw [List.foldl_cons, ← c]
    congr 1
    show (do let j ← layClean.free mask o (turns mask) (bits h % (mask + 1)) (bits h); pure (o.setIfInBounds j (some pre.length), pre.length + 1)) = _
    rw [a, List.length_append]
    rfl
theorem layClean_some {mask k : Nat} (hm : mask + 1 = 2 ^ k) {hs : Array Int} (hl : hs.size ≤ mask + 1) : ∃ o, layClean mask hs = some o ∧ Laid mask hs.toList o hs.size := by
  have L0 : Laid mask hs.toList (Array.replicate (mask + 1) none) ([] : List Int).length :=
    ⟨by simp, fun j i e => by
      rw [Array.getElem?_replicate] at e
      split at e <;> simp at e, fun i hi => absurd hi (Nat.not_lt_zero _), fun j j' i e => by
      rw [Array.getElem?_replicate] at e
      split at e <;> simp at e, fun j i h e => by
      rw [Array.getElem?_replicate] at e
      split at e <;> simp at e⟩
  obtain ⟨o, a, b⟩ := layClean_fold hm (by simpa using hl) hs.toList [] _ rfl L0
  refine ⟨o, ?_, by simpa using b⟩
  unfold layClean
  rw [← Array.foldl_toList]
  show Option.map _ (List.foldl _ (some (Array.replicate (mask + 1) none, ([] : List Int).length)) hs.toList) = _
  rw [a]
  rfl
theorem sizeAbove_go (w : Nat) : ∀ fuel k, w < 2 ^ fuel * 2 ^ k → ∃ k', k ≤ k' ∧ sizeAbove.go w fuel (2 ^ k) = 2 ^ k' ∧ w < 2 ^ k' ∧ (2 ^ k' = 2 ^ k ∨ 2 ^ k' ≤ 2 * w)
  | 0, k, h => ⟨k, Nat.le_refl _, rfl, by simpa using h, .inl rfl⟩
  | fuel + 1, k, h => by
    unfold sizeAbove.go
    by_cases c : 2 ^ k ≤ w
    · rw [if_pos c, ← Nat.pow_succ]
      obtain ⟨k', a, b, d, e⟩ := sizeAbove_go w fuel (k + 1) (by rw [Nat.pow_succ] at h ⊢; rw [Nat.mul_comm (2 ^ k) 2, ← Nat.mul_assoc]; exact h)
      refine ⟨k', by omega, b, d, .inr ?_⟩
      rcases e with e | e
      · rw [e, Nat.pow_succ]; omega
      · exact e
    · rw [if_neg c]
      exact ⟨k, Nat.le_refl _, rfl, by omega, .inl rfl⟩
theorem sizeAbove_spec {w : Nat} (h : w < 2 ^ 60) : ∃ k, 3 ≤ k ∧ sizeAbove w = 2 ^ k ∧ w < 2 ^ k ∧ (2 ^ k = 8 ∨ 2 ^ k ≤ 2 * w) :=
  sizeAbove_go w 64 3 (Nat.lt_of_lt_of_le h (by decide))
def liveOf (mask : Nat) (o : Ow) : List (Nat × Nat) := (List.range (mask + 1)).filterMap fun j => (o.getD j none).map (j, ·)
theorem mem_live {mask : Nat} {o : Ow} (hs : o.size = mask + 1) {j i : Nat} : (j, i) ∈ liveOf mask o ↔ o[j]? = some (some i) := by
  unfold liveOf
  rw [List.mem_filterMap]
  constructor
  · rintro ⟨a, ha, e⟩
    rw [List.mem_range] at ha
    have g : o.getD a none = o[a] := by simp [Array.getD, show a < o.size by omega]
    rw [g, Option.map_eq_some_iff] at e
    obtain ⟨b, e1, e2⟩ := e
    cases e2
    rw [Array.getElem?_eq_getElem (by omega), e1]
  · intro e
    obtain ⟨h1, e1⟩ := Array.getElem?_eq_some_iff.mp e
    refine ⟨j, List.mem_range.mpr (by omega), ?_⟩
    have g : o.getD j none = o[j] := by simp [Array.getD, h1]
    rw [g, e1]; rfl
theorem live_ris (mask : Nat) (o : Ow) : Ris ((liveOf mask o).map (·.1)) := by
  unfold liveOf Ris
  have key : ∀ l : List Nat, l.Pairwise (· < ·) → ((l.filterMap fun j => (o.getD j none).map (j, ·)).map (·.1)).Pairwise (· < ·) ∧ ∀ x ∈ (l.filterMap fun j => (o.getD j none).map (j, ·)).map (·.1), x ∈ l := by
    intro l
    induction l with
    | nil => intro _; exact ⟨by simp, by simp⟩
    | cons a r ih =>
      intro h
      rw [List.pairwise_cons] at h
      obtain ⟨p, q⟩ := ih h.2
      rw [List.filterMap_cons]
      cases hc : (o.getD a none).map (a, ·) with
      | none => exact ⟨p, fun x hx => List.mem_cons_of_mem _ (q x hx)⟩
      | some y =>
        rw [Option.map_eq_some_iff] at hc
        obtain ⟨b, _, rfl⟩ := hc
        rw [List.map_cons, List.pairwise_cons]
        refine ⟨⟨fun x hx => h.1 x (q x hx), p⟩, fun x hx => ?_⟩
        rcases List.mem_cons.mp hx with rfl | hx
        · exact List.mem_cons_self
        · exact List.mem_cons_of_mem _ (q x hx)
  exact (key _ List.pairwise_lt_range).1
theorem range_picks {α : Type} (l : List α) : (List.range l.length).filterMap (fun i => l[i]?) = l := by
  induction l with
  | nil => rfl
  | cons a r ih =>
    rw [List.length_cons, List.range_succ_eq_map, List.filterMap_cons]
    simp only [List.getElem?_cons_zero, List.filterMap_map]
    congr 1
theorem laid_good {mask k : Nat} (h3 : 3 ≤ k) (hm : mask + 1 = 2 ^ k) {es : Array (Int × Value)} (hl : es.size ≤ mask) (f mv : Nat) (ld pl : Bool) :
    ∃ t order, laid mask f mv ld pl (es.map (·.1)) = some (t, order) ∧ t.mask = mask ∧ List.Perm (order.filterMap (es[·]?)).toList es.toList ∧ Good t ((order.filterMap (es[·]?)).toList.map (·.1)) := by
  obtain ⟨o, a, L⟩ := layClean_some hm (hs := es.map (·.1)) (by rw [Array.size_map]; omega)
  rw [Array.size_map] at L
  have hord : ((liveOf mask o).map (·.2)).Nodup := by
    rw [List.nodup_iff_pairwise_ne, List.pairwise_map]
    have hp : (liveOf mask o).Pairwise fun x y => x.1 < y.1 := List.pairwise_map.mp (live_ris mask o)
    refine List.Pairwise.imp_of_mem (fun {x y} hx hy hlt e => ?_) hp
    have e1 := (mem_live L.sz (j := x.1) (i := x.2)).mp hx
    have e2 := (mem_live L.sz (j := y.1) (i := y.2)).mp hy
    rw [← e] at e2
    have := L.inj _ _ _ e1 e2
    omega
  have hperm : List.Perm ((liveOf mask o).map (·.2)) (List.range es.size) := by
    refine (List.perm_ext_iff_of_nodup hord List.nodup_range).mpr fun i => ?_
    rw [List.mem_map, List.mem_range]
    constructor
    · rintro ⟨x, hx, rfl⟩
      exact L.lt _ _ ((mem_live L.sz (j := x.1) (i := x.2)).mp hx)
    · intro hi
      obtain ⟨j, e⟩ := L.all i hi
      exact ⟨(j, i), (mem_live L.sz).mpr e, rfl⟩
  refine ⟨{ mask, place := ((liveOf mask o).map (·.1)).toArray, dummies := #[], finger := f, led := ld, moves := mv, plain := pl }, ((liveOf mask o).map (·.2)).toArray, ?_, rfl, ?_, ?_⟩
  · unfold laid
    rw [a]
    rfl
  · have e : ((((liveOf mask o).map (·.2)).toArray).filterMap (es[·]?)).toList = ((liveOf mask o).map (·.2)).filterMap (es[·]?) := by simp
    rw [e]
    refine (hperm.filterMap _).trans ?_
    have := range_picks es.toList
    simp only [Array.length_toList, Array.getElem?_toList] at this
    rw [this]
  · have picks : ∀ l : List (Nat × Nat), (∀ x ∈ l, x.2 < es.size) → (l.map (·.2)).filterMap (es[·]?) = l.map fun x => (es[x.2]?).getD default := by
      intro l
      induction l with
      | nil => intro _; rfl
      | cons x r ih =>
        intro h
        have hx := h x List.mem_cons_self
        rw [List.map_cons, List.filterMap_cons, Array.getElem?_eq_getElem hx, List.map_cons, ih fun y hy => h y (List.mem_cons_of_mem _ hy), Array.getElem?_eq_getElem hx]
        rfl
    have hlt : ∀ x ∈ liveOf mask o, x.2 < es.size := fun x hx => L.lt _ _ ((mem_live L.sz (j := x.1) (i := x.2)).mp hx)
    have e : ((((liveOf mask o).map (·.2)).toArray).filterMap (es[·]?)).toList = (liveOf mask o).map fun x => (es[x.2]?).getD default := by
      rw [← picks _ hlt]; simp
    rw [e]
    have hlen : (liveOf mask o).length = es.size := by
      have := hperm.length_eq
      rw [List.length_map, List.length_range] at this
      exact this
    have hocc : ∀ j, j ∈ taken o → j ∈ (liveOf mask o).map (·.1) := fun j hj => by
      obtain ⟨i, e⟩ := mem_taken.mp hj
      exact List.mem_map.mpr ⟨(j, i), (mem_live L.sz).mpr e, rfl⟩
    refine ⟨⟨k, h3, hm⟩, rfl, by simpa using live_ris mask o, fun j hj => ?_, ?_, ?_, fun x hx => ?_⟩
    · have hj' : j ∈ (liveOf mask o).map (·.1) := by simpa using hj
      obtain ⟨x, hx, rfl⟩ := List.mem_map.mp hj'
      obtain ⟨h1, _⟩ := Array.getElem?_eq_some_iff.mp ((mem_live L.sz (j := x.1) (i := x.2)).mp hx)
      rw [L.sz] at h1
      show x.1 ≤ mask
      omega
    · simp
    · show (((liveOf mask o).map (·.1)).toArray).size ≤ mask
      rw [List.size_toArray, List.length_map, hlen]; exact hl
    · have hz : (((liveOf mask o).map (·.1)).toArray).toList.zip (((liveOf mask o).map fun x => (es[x.2]?).getD default).map (·.1)) = (liveOf mask o).map fun x => (x.1, ((es[x.2]?).getD default).1) := by
        simp [List.zip_map', List.map_map]
      have hx' : x ∈ (liveOf mask o).map fun x => (x.1, ((es[x.2]?).getD default).1) := by rw [← hz]; exact hx
      obtain ⟨y, hy, rfl⟩ := List.mem_map.mp hx'
      have e1 := (mem_live L.sz (j := y.1) (i := y.2)).mp hy
      have hi := hlt y hy
      have e2 : (es.map (·.1)).toList[y.2]? = some ((es[y.2]?).getD default).1 := by
        rw [Array.getElem?_eq_getElem hi]
        simp [hi]
      obtain ⟨q, q1, q2⟩ := L.reach y.1 y.2 _ e1 e2
      refine ⟨q, q1, fun m hm' => ?_⟩
      have := hocc _ (q2 m hm')
      simpa using this
end ST

/-! A set of tuples: what an addition does. -/
namespace PySem
section
variable {prog : Program} {w : World} {K : Type} [DecidableEq K] (knd : KeyKind prog w K)
def ElT (h : Heap) (k : List K) (e : Int × Value) : Prop := ∃ b, e.2 = .ref b ∧ IsTupleKey knd h k b ∧ e.1 = tupleKeyHash knd k
def Heap.TupSet (h : Heap) (a : Addr) (S : List K → Bool) (n : Nat) : Prop :=
  ∃ o es ep t, h.get? a = some o ∧ o.ExactSet ∧ o.data = .set es ep t ∧ ST.Good t (es.toList.map (·.1)) ∧ (∀ e ∈ es.toList, ∃ k, ElT knd h k e) ∧ (∀ k, S k = true ↔ ∃ e ∈ es.toList, ElT knd h k e)
    ∧ es.size = n ∧ t.place.size * 5 < t.mask * 3 ∧ (t.mask < 8 ∨ t.mask < 8 * n)
variable {knd} {A : Around} {E : Value → Shared → Prop} {s : Shared}
theorem ElT.inj {h : Heap} {k k' : List K} {e : Int × Value} (x : ElT knd h k e) (y : ElT knd h k' e) : k = k' := by
  obtain ⟨b, e1, t1, _⟩ := x
  obtain ⟨b', e2, t2, _⟩ := y
  rw [e1] at e2; cases e2
  exact t1.inj t2
theorem IsTupleKey.but {h h' : Heap} {ks : List K} {a d : Addr} {o : Obj} {es ep t} (x : IsTupleKey knd h ks a) (ho : h.get? d = some o) (hd : o.data = .set es ep t) (hs : Heap.SameBut d h h') : IsTupleKey knd h' ks a := by
  obtain ⟨o', items, n, ho', hc, hd', hi⟩ := x
  have hne : a ≠ d := by
    rintro rfl
    obtain rfl : o' = o := Option.some.inj (ho'.symm.trans ho)
    rw [hd] at hd'; exact nomatch hd'
  exact ⟨o', items, n, (hs.2 a hne).trans ho', hc, hd', hi⟩
theorem ElT.but {h h' : Heap} {k : List K} {e : Int × Value} {d : Addr} {o : Obj} {es ep t} (x : ElT knd h k e) (ho : h.get? d = some o) (hd : o.data = .set es ep t) (hs : Heap.SameBut d h h') : ElT knd h' k e :=
  let ⟨b, e1, e2, e3⟩ := x; ⟨b, e1, e2.but ho hd hs, e3⟩
theorem ofAClass_val {M : Model} (n : Nat) {v : Value} (h : carriedByValue v = true) : ofAClassStatement n v = pure false := by
  cases v <;> first | (cases n <;> rfl) | simp [carriedByValue] at h
theorem wpAny_ofAClass_tuple {ks : List K} {a : Addr} {Q : Bool → Shared → Prop} (hk : IsTupleKey knd s.heap ks a) (h : Q false s) : wpAny (model prog w) A (ofAClassStatement 8 (.ref a)) Q E s := by
  have hT := hk.typeIs
  obtain ⟨o, items, n, ho, _, hd, hi⟩ := hk
  unfold ofAClassStatement
  refine wpAny_bind (wpAny_typeOf hT ?_)
  dsimp only
  rw [if_pos (by decide)]
  refine wpAny_bind (wpAny_pure ?_)
  simp only [Bool.not_true, Bool.false_eq_true, if_false]
  refine wpAny_bind (wpAny_seqItems ho hd ?_)
  dsimp only
  refine wpAny_bind ?_
  rw [← Array.forIn_toList]
  refine wpAny_forIn_list _ (fun rest r s' => r.1 = none ∧ s' = s ∧ ∀ v ∈ rest, carriedByValue v = true) _ ?_ ?_ _ _ ⟨rfl, rfl, hi.byValue⟩
  · rintro v rest r s' ⟨hr, rfl, hall⟩
    rw [ofAClass_val (M := model prog w) _ (hall v List.mem_cons_self)]
    refine wpAny_bind (wpAny_pure ?_)
    simp only [Bool.false_eq_true, if_false]
    exact wpAny_pure ⟨rfl, rfl, fun u hu' => hall u (List.mem_cons_of_mem _ hu')⟩
  · rintro ⟨r1, r2⟩ s' ⟨hr, rfl, _⟩
    simp only at hr
    subst hr
    exact wpAny_pure h
theorem hashByValue_val (n : Nat) {v : Value} (h : carriedByValue v = true) : ∃ c, hashByValue n v = pure c := by
  cases v <;> first | (cases n <;> exact ⟨_, rfl⟩) | simp [carriedByValue] at h
theorem wpAny_hashByValue_tuple {ks : List K} {a : Addr} {Q : Bool → Shared → Prop} (hk : IsTupleKey knd s.heap ks a) (h : ∀ c, Q c s) : wpAny (model prog w) A (hashByValue 8 (.ref a)) Q E s := by
  have hT := hk.typeIs
  obtain ⟨o, items, n, ho, _, hd, hi⟩ := hk
  unfold hashByValue
  refine wpAny_bind (wpAny_specialOf hT F.slot_tuple_hash.lookup ?_)
  dsimp only
  refine wpAny_bind (wpAny_seqItems ho hd ?_)
  refine wpAny_bind ?_
  show wpAny _ _ (forIn items _ _) _ _ s
  rw [← Array.forIn_toList]
  refine wpAny_forIn_list _ (fun rest r s' => r.1 = none ∧ s' = s ∧ ∀ v ∈ rest, carriedByValue v = true) _ ?_ ?_ _ _ ⟨rfl, rfl, hi.byValue⟩
  · rintro v rest r s' ⟨hr, rfl, hall⟩
    obtain ⟨c, hc⟩ := hashByValue_val 7 (hall v List.mem_cons_self)
    rw [hc]
    refine wpAny_bind (wpAny_pure ?_)
    cases c
    · simp only [Bool.not_false, if_true]
      exact wpAny_pure (wpAny_pure (h _))
    · simp only [Bool.not_true, Bool.false_eq_true, if_false]
      exact wpAny_pure ⟨rfl, rfl, fun u hu' => hall u (List.mem_cons_of_mem _ hu')⟩
  · rintro ⟨r1, r2⟩ s' ⟨hr, rfl, _⟩
    simp only at hr
    subst hr
    exact wpAny_pure (h _)
theorem wpAny_notSeen {k : List K} {b : Addr} {Q : Bool → Shared → Prop} (hk : IsTupleKey knd s.heap k b) {l : List Value} (hl : ∀ v ∈ l, ∃ k' b', v = .ref b' ∧ IsTupleKey knd s.heap k' b') (h : Q false s) :
    wpAny (model prog w) A (searchCouldBeSeen (.ref b) l) Q E s := by
  unfold searchCouldBeSeen
  refine wpAny_bind ?_
  refine wpAny_forIn_list _ (fun rest r s' => r.1 = none ∧ s' = s ∧ ∀ v ∈ rest, ∃ k' b', v = .ref b' ∧ IsTupleKey knd s.heap k' b') _ ?_ ?_ _ _ ⟨rfl, rfl, hl⟩
  · rintro v rest r s' ⟨hr, rfl, hall⟩
    obtain ⟨k', b', rfl, hk'⟩ := hall v List.mem_cons_self
    have more : ∀ u ∈ rest, ∃ k' b', u = Value.ref b' ∧ IsTupleKey knd s'.heap k' b' := fun u hu => hall u (List.mem_cons_of_mem _ hu)
    dsimp only
    split
    · exact wpAny_pure ⟨rfl, rfl, more⟩
    · refine wpAny_bind (wpAny_eqIsQuiet_tuple hk ?_)
      simp only [Bool.not_true, Bool.false_eq_true, if_false]
      refine wpAny_bind (wpAny_eqIsQuiet_tuple hk' ?_)
      simp only [Bool.not_true, Bool.false_eq_true, if_false]
      refine wpAny_bind (wpAny_ofAClass_tuple hk ?_)
      simp only [Bool.false_eq_true, if_false]
      refine wpAny_bind (wpAny_ofAClass_tuple hk' ?_)
      simp only [Bool.false_eq_true, if_false]
      exact wpAny_pure ⟨rfl, rfl, more⟩
  · rintro ⟨r1, r2⟩ s' ⟨hr, rfl, _⟩
    simp only at hr
    subst hr
    exact wpAny_pure h
end
end PySem

namespace PySem
section
variable {prog : Program} {w : World} {K : Type} [DecidableEq K] {knd : KeyKind prog w K} {A : Around} {E : Value → Shared → Prop} {s : Shared}
open ST in
theorem wpAny_setSearch_tup {a b : Addr} {k : List K} {o : Obj} {es : Array (Int × Value)} {ep : Nat} {t : SetTable} {Q : SetFound → Shared → Prop} (hu : A.units < cLine) (ho : s.heap.get? a = some o) (hd : o.data = .set es ep t)
    (g : Good t (es.toList.map (·.1))) (hel : ∀ e ∈ es.toList, ∃ k, ElT knd s.heap k e) (hk : IsTupleKey knd s.heap k b) {N : Nat} (hN : pos t.mask (tupleKeyHash knd k) N ∉ t.place.toList) (hO : ∀ m, m < N → pos t.mask (tupleKeyHash knd k) m ∈ t.place.toList)
    (hb : N < 10 * (t.mask + 15)) (hY : (∃ e ∈ es.toList, ElT knd s.heap k e) → Q (.there none) s) (hNo : (∀ e ∈ es.toList, ¬ ElT knd s.heap k e) → Q (.free (pos t.mask (tupleKeyHash knd k) N) false) s) :
    ∀ fuel q (stand : Option SetTable.Probe), N - q < fuel → q ≤ N → stand.getD (t.probeStart (tupleKeyHash knd k)) = itr t.mask q (st t.mask (tupleKeyHash knd k)) →
      ((∃ e ∈ es.toList, ElT knd s.heap k e) → ∃ m i e, q ≤ m ∧ m < N ∧ t.slot (pos t.mask (tupleKeyHash knd k) m) = .live i ∧ es[i]? = some e ∧ ElT knd s.heap k e) →
      wpAny (model prog w) A (setSearchFrom a (.ref b) (tupleKeyHash knd k) true fuel stand) Q E s
  | 0, q, stand, h1, h2, h3, h4 => absurd h1 (Nat.not_lt_zero _)
  | fuel + 1, q, stand, h1, h2, h3, h4 => by
    have hf : t.fits es.size = true := by have := g.fits; simpa using this
    unfold setSearchFrom
    refine wpAny_bind (wpAny_setState_of ho hd hf ?_)
    dsimp only
    rw [g.odd]
    simp only [Bool.false_eq_true, if_false]
    rw [h3]
    unfold SetTable.probe
    rcases probe_go g (tupleKeyHash knd k) hN hO _ (10 * SetTable.turns t.mask) q h2 (by unfold SetTable.turns; omega) with ⟨e, all⟩ | ⟨m, i, a1, a2, a3, a4, a5, a6⟩
    · rw [e]
      dsimp only
      refine wpAny_pure (hNo fun e he hk' => ?_)
      obtain ⟨m, i, e', b1, b2, b3, b4, b5⟩ := h4 ⟨e, he, hk'⟩
      refine all m i b1 b2 b3 ?_
      show (es[i]?.map (·.1)).getD 0 = _
      rw [b4]
      obtain ⟨_, _, _, z⟩ := b5
      exact z
    · rw [a5]
      dsimp only
      obtain ⟨pi, hpi, hsl⟩ := slot_mem g.ris (hO m a2)
      rw [a3] at hsl
      cases hsl
      have hi : i < es.size := by
        have := (Array.getElem?_eq_some_iff.mp hpi).1
        rw [g.len] at this
        simpa using this
      have hei : es[i]? = some es[i] := Array.getElem?_eq_getElem hi
      have hmem : es[i] ∈ es.toList := by simp
      obtain ⟨k', b', eb, hk', hh'⟩ := hel _ hmem
      have key : ∀ U Y : Sem SetFound, wpAny (model prog w) A Y Q E s → wpAny (model prog w) A (if (!t.led) = true then do
          let c ← searchCouldBeSeen (Value.ref b) (List.map (fun x => x.snd) (Array.filter (fun x => x.fst == tupleKeyHash knd k) es).toList)
          if c = true then U else Y
        else Y) Q E s := fun U Y q' => by
        split
        · refine wpAny_bind (wpAny_notSeen hk (fun v hv => ?_) ?_)
          · obtain ⟨e, he, rfl⟩ := List.mem_map.mp hv
            have he' : e ∈ es := by
              simp at he
              exact he.1
            obtain ⟨k'', b'', e1, e2, _⟩ := hel e (by simpa using he')
            exact ⟨k'', b'', e1, e2⟩
          · simp only [Bool.false_eq_true, if_false]
            exact q'
        · exact q'
      refine key _ _ ?_
      rw [hei]
      dsimp only
      rw [eb]
      refine wpAny_bind (wpAny_holding (wpAny_eqBool_tuple hu hk' hk ?_))
      refine wpAny_bind (wpAny_setState_of ho hd hf ?_)
      dsimp only
      by_cases c : k' = k
      · subst c
        rw [decide_eq_true rfl]
        simp only [Bool.and_self, if_true]
        exact wpAny_pure (hY ⟨_, hmem, b', eb, hk', hh'⟩)
      · rw [decide_eq_false c]
        simp only [Bool.and_false, Bool.false_eq_true, if_false]
        have hsm : t.sameMemory t.moves t.mask = some true := by unfold SetTable.sameMemory; simp
        rw [hsm]
        dsimp only
        rw [if_pos rfl, a3]
        dsimp only
        rw [hei]
        dsimp only
        rw [eb]
        refine wpAny_bind (wpAny_isSame_ref_self ?_)
        rw [if_pos rfl]
        refine wpAny_bind (wpAny_pure ?_)
        dsimp only
        refine wpAny_setSearch_tup hu ho hd g hel hk hN hO hb hY hNo fuel (m + 1) (some _) (by omega) (by omega) rfl fun hx => ?_
        obtain ⟨m', i', e', b1, b2, b3, b4, b5⟩ := h4 hx
        refine ⟨m', i', e', ?_, b2, b3, b4, b5⟩
        rcases Nat.lt_trichotomy m' m with z | z | z
        · refine absurd ?_ (a6 m' i' b1 z b3)
          show (es[i']?.map (·.1)).getD 0 = _
          rw [b4]
          obtain ⟨_, _, _, z'⟩ := b5
          exact z'
        · subst z
          rw [a3] at b3; cases b3
          rw [hei] at b4; cases b4
          exact absurd (ElT.inj ⟨b', eb, hk', hh'⟩ b5) c
        · omega
end
end PySem

namespace PySem
section
variable {prog : Program} {w : World} {K : Type} [DecidableEq K] {knd : KeyKind prog w K} {A : Around} {E : Value → Shared → Prop} {s : Shared}
theorem wpAny_setRelay {a : Addr} {o : Obj} {es : Array (Int × Value)} {ep : Nat} {t : SetTable} {wanted : Nat} {Q : Unit → Shared → Prop} (ho : s.heap.get? a = some o) (hd : o.data = .set es ep t)
    (hf : t.fits es.size = true) (hw : wanted < 100000) (hw2 : 4 * es.size ≤ wanted)
    (h : ∀ es' t', List.Perm es'.toList es.toList → ST.Good t' (es'.toList.map (·.1)) → wanted < t'.mask + 1 → (t'.mask + 1 = 8 ∨ t'.mask + 1 ≤ 2 * wanted) → Q () { s with heap := s.heap.update a (Obj.putSet es' t') }) :
    wpAny (model prog w) A (setRelay a wanted) Q E s := by
  obtain ⟨k, h3, e, lt, le⟩ := ST.sizeAbove_spec (w := wanted) (Nat.lt_of_lt_of_le hw (by decide))
  unfold setRelay
  refine wpAny_bind (wpAny_setState_of ho hd hf ?_)
  dsimp only
  have hsl : ¬ SetTable.sizeAbove wanted > sizeLine := by
    rw [e, sizeLine_eq]
    rcases le with z | z <;> omega
  rw [if_neg hsl]
  have hpos : 0 < 2 ^ k := Nat.two_pow_pos k
  have hm : (2 ^ k - 1) + 1 = 2 ^ k := by omega
  obtain ⟨t', order, el, em, perm, good⟩ := ST.laid_good h3 hm (es := es) (by omega) t.finger (t.movedTo (2 ^ k - 1)) t.led t.plain
  have er : t.relaid (es.map (·.1)) wanted = some (t', order) := by
    unfold SetTable.relaid
    rw [e]; exact el
  rw [er]
  have hsz : (order.filterMap (es[·]?)).size = es.size := by
    rw [← Array.length_toList, perm.length_eq, Array.length_toList]
  show wpAny (model prog w) A ((do
      let es' := order.filterMap (es[·]?)
      if es'.size != es.size then unsupported "internal:set-table-lost-an-element"
      pure (es', t')) >>= fun x => storeSet a x.1 x.2) Q E s
  dsimp only
  rw [hsz]
  simp only [bne_self_eq_false, Bool.false_eq_true, if_false]
  refine wpAny_bind (wpAny_pure ?_)
  refine wpAny_storeSet_of ho hd (h _ _ perm good (by rw [em, hm]; exact lt) (by rw [em, hm]; exact le)) ?_
  rw [hsz, sizeLine_eq]; omega
theorem TupSet_store {h : Heap} {a : Addr} {o : Obj} {es : Array (Int × Value)} {ep : Nat} {t : SetTable} (ho : h.get? a = some o) (hex : o.ExactSet) (hd : o.data = .set es ep t) (es' : Array (Int × Value)) (t' : SetTable) :
    (h.update a (Obj.putSet es' t')).get? a = some { o with data := .set es' (ep + 1) t' } ∧ Heap.SameBut a h (h.update a (Obj.putSet es' t')) ∧ ({ o with data := .set es' (ep + 1) t' } : Obj).ExactSet := by
  have hg : (h.update a (Obj.putSet es' t')).get? a = some { o with data := .set es' (ep + 1) t' } := by
    have := Heap.get?_update_self (Obj.putSet es' t') ho (by rw [putSet_of es' t' hd]; rfl)
    rw [putSet_of es' t' hd] at this; exact this
  exact ⟨hg, Heap.SameBut.update h a _, hex⟩
open ST in
theorem wpAny_setAdd_tup {a b : Addr} {k : List K} {S : List K → Bool} {n : Nat} {Q : Bool → Shared → Prop} (hu : A.units < cLine) (hS : s.heap.TupSet knd a S n) (hk : IsTupleKey knd s.heap k b) (hroom : n < 1000)
    (h : ∀ h', Heap.SameBut a s.heap h' → h'.TupSet knd a (fun k' => S k' || decide (k' = k)) (if S k then n else n + 1) → Q (!S k) { s with heap := h' }) :
    wpAny (model prog w) A (setAddHashed a (.ref b) (tupleKeyHash knd k)) Q E s := by
  obtain ⟨o, es, ep, t, ho, hex, hd, g, hel, hmem, hn, hfull, hmask⟩ := hS
  have hf : t.fits es.size = true := by have := g.fits; simpa using this
  have hps : t.place.size = es.size := by have := g.len; simpa using this
  unfold setAddHashed
  refine wpAny_holding ?_
  unfold setAddHashedIn
  refine wpAny_bind (wpAny_setState_of ho hd hf ?_)
  dsimp only
  rw [show byScan (.ref b) es = false from rfl]
  simp only [Bool.false_eq_true, if_false]
  obtain ⟨N, hN1, hN2, hN3⟩ := g.free (tupleKeyHash knd k)
  refine wpAny_bind ?_
  unfold setSearch
  refine wpAny_setSearch_tup hu ho hd g hel hk hN2 hN3 (by omega) (fun hx => ?_) (fun hx => ?_) 100000 0 none (by rcases hmask with z | z <;> omega) (Nat.zero_le _) rfl (fun ⟨e, he, hke⟩ => ?_)
  · -- it is there
    dsimp only
    have hSk : S k = true := (hmem k).mpr hx
    refine wpAny_pure ?_
    have := h s.heap (Heap.SameBut.refl a s.heap) ⟨o, es, ep, t, ho, hex, hd, g, hel, fun k' => by
      rw [Bool.or_eq_true, decide_eq_true_eq, ← hmem k']
      exact ⟨fun hk => hk.elim id (fun e => e ▸ hSk), .inl⟩, by rw [hSk]; exact hn, hfull, by rw [hSk]; exact hmask⟩
    rw [hSk] at this
    exact this
  · -- it is new
    dsimp only
    have hSk : S k = false := by
      cases hc : S k with
      | false => rfl
      | true => obtain ⟨e, he, hp⟩ := (hmem k).mp hc; exact absurd hp (hx e he)
    rw [hSk] at h
    refine wpAny_bind (wpAny_setState_of ho hd hf ?_)
    dsimp only
    have hplain : ∀ Y : Bool → Sem Bool, (∀ c, wpAny (model prog w) A (Y c) Q E s) → wpAny (model prog w) A (if (t.put (pos t.mask (tupleKeyHash knd k) N)).1.plain = true then (hashByValue 8 (.ref b) >>= Y) else (pure true >>= Y)) Q E s := fun Y hR => by
      split
      · exact wpAny_bind (wpAny_hashByValue_tuple hk hR)
      · exact wpAny_bind (wpAny_pure (hR true))
    refine hplain _ fun c => ?_
    generalize hT : (if c = true then (t.put (pos t.mask (tupleKeyHash knd k) N)).1 else { (t.put (pos t.mask (tupleKeyHash knd k) N)).1 with plain := false }) = T
    have hr : t.place.size < t.mask := by omega
    have hTg : ∃ pl, T = { (t.put (pos t.mask (tupleKeyHash knd k) N)).1 with plain := pl } := by
      cases c
      · exact ⟨false, by rw [← hT]; rfl⟩
      · exact ⟨(t.put (pos t.mask (tupleKeyHash knd k) N)).1.plain, by rw [← hT]; rfl⟩
    obtain ⟨pl, hTe⟩ := hTg
    have g1 := g.put hN2 hN3 hr pl
    rw [← hTe] at g1
    generalize hES : SetTable.insertAt es (t.put (pos t.mask (tupleKeyHash knd k) N)).2 (tupleKeyHash knd k, Value.ref b) = ES
    have hESl : ES.toList = insL es.toList (SetTable.below t.place (pos t.mask (tupleKeyHash knd k) N)) (tupleKeyHash knd k, Value.ref b) := by
      rw [← hES]; exact toList_insertAt _ _ _
    have hESm : ES.toList.map (·.1) = insL (es.toList.map (·.1)) (SetTable.below t.place (pos t.mask (tupleKeyHash knd k) N)) (tupleKeyHash knd k) := by
      rw [hESl]; unfold insL; simp [List.map_take, List.map_drop]
    rw [← hESm] at g1
    have hESp : ES.toList.Perm ((tupleKeyHash knd k, Value.ref b) :: es.toList) := by rw [hESl]; exact insL_perm _ _ _
    have hESz : ES.size = n + 1 := by
      have := hESp.length_eq
      simp at this; omega
    have hTm : T.mask = t.mask := by rw [hTe]; rfl
    have hTp : T.place.size = n + 1 := by have := g1.len; simp at this; omega
    have hTd : T.dummies.size = 0 := by rw [g1.dum]; rfl
    have hSL : ES.size ≤ sizeLine := by rw [hESz, sizeLine_eq]; omega
    obtain ⟨ho1, hsb1, hex1⟩ := TupSet_store ho hex hd ES T
    refine wpAny_bind (wpAny_storeSet_of ho hd ?_ hSL)
    have hnew : ElT knd s.heap k (tupleKeyHash knd k, Value.ref b) := ⟨b, rfl, hk, rfl⟩
    have elems : ∀ (L : List (Int × Value)) (h' : Heap), L.Perm ((tupleKeyHash knd k, Value.ref b) :: es.toList) → Heap.SameBut a s.heap h' → (∀ e ∈ L, ∃ k, ElT knd h' k e) ∧ ∀ k', (S k' || decide (k' = k)) = true ↔ ∃ e ∈ L, ElT knd h' k' e := fun L h' hp hs => by
      have old : ∀ e ∈ es.toList, ∃ k', ElT knd s.heap k' e ∧ ElT knd h' k' e := fun e he => by
        obtain ⟨k', z⟩ := hel e he
        exact ⟨k', z, z.but ho hd hs⟩
      refine ⟨fun e he => ?_, fun k' => ?_⟩
      · rcases List.mem_cons.mp (hp.mem_iff.mp he) with rfl | he
        · exact ⟨k, hnew.but ho hd hs⟩
        · obtain ⟨k', _, z⟩ := old e he; exact ⟨k', z⟩
      · rw [Bool.or_eq_true, decide_eq_true_eq, hmem k']
        constructor
        · rintro (⟨e, he, z⟩ | rfl)
          · exact ⟨e, hp.mem_iff.mpr (List.mem_cons_of_mem _ he), z.but ho hd hs⟩
          · exact ⟨_, hp.mem_iff.mpr List.mem_cons_self, hnew.but ho hd hs⟩
        · rintro ⟨e, he, z⟩
          rcases List.mem_cons.mp (hp.mem_iff.mp he) with rfl | he
          · exact .inr (z.inj (hnew.but ho hd hs))
          · obtain ⟨k'', z1, z2⟩ := old e he
            have := z.inj z2
            subst this
            exact .inl ⟨e, he, z1⟩
    by_cases hfl : T.tooFull = true
    · rw [hfl]
      simp only [Bool.not_false, Bool.and_self, if_true]
      have hgr : SetTable.grown (es.size + 1) = 4 * (n + 1) := by unfold SetTable.grown; rw [if_neg (by omega)]; omega
      rw [hgr]
      refine wpAny_bind (wpAny_setRelay ho1 rfl (by have := g1.fits; simpa using this) (by omega) (by omega) fun es' t' hp hg hw hle => ?_)
      obtain ⟨ho2, hsb2, hex2⟩ := TupSet_store ho1 hex1 rfl es' t'
      have hsb : Heap.SameBut a s.heap ((s.heap.update a (Obj.putSet ES T)).update a (Obj.putSet es' t')) := hsb1.trans hsb2
      obtain ⟨x1, x2⟩ := elems es'.toList _ (hp.trans hESp) hsb
      have hz' : es'.size = n + 1 := by have := hp.length_eq; simp at this; omega
      have hp' : t'.place.size = n + 1 := by have := hg.len; simp at this; omega
      refine wpAny_pure (h _ hsb ⟨_, es', _, t', ho2, hex2, rfl, hg, x1, x2, ?_, ?_, ?_⟩)
      · simp only [Bool.false_eq_true, if_false]; exact hz'
      · rw [hp']; omega
      · simp only [Bool.false_eq_true, if_false]; omega
    · rw [Bool.not_eq_true] at hfl
      rw [hfl]
      simp only [Bool.and_false, Bool.false_eq_true, if_false]
      obtain ⟨x1, x2⟩ := elems ES.toList _ hESp hsb1
      have hnf : T.place.size * 5 < T.mask * 3 := by
        unfold SetTable.tooFull SetTable.fill at hfl
        rw [hTd] at hfl
        simp at hfl
        omega
      refine wpAny_pure (h _ hsb1 ⟨_, ES, _, T, ho1, hex1, rfl, g1, x1, x2, ?_, hnf, ?_⟩)
      · simp only [Bool.false_eq_true, if_false]; exact hESz
      · simp only [Bool.false_eq_true, if_false]; rw [hTm]; omega
  · -- where it would be met
    obtain ⟨i, hi, ei⟩ := List.getElem_of_mem he
    have hi' : i < es.size := by simpa using hi
    have hpi : i < t.place.size := by omega
    have hz : (t.place[i], e.1) ∈ t.place.toList.zip (es.toList.map (·.1)) := by
      refine List.mem_iff_getElem.mpr ⟨i, ?_, ?_⟩
      · simp; omega
      · simp [← ei]
    obtain ⟨q, q1, q2⟩ := g.reach _ hz
    have eh : e.1 = tupleKeyHash knd k := let ⟨_, _, _, z⟩ := hke; z
    dsimp only at q1 q2
    rw [eh] at q1 q2
    have hmemq : pos t.mask (tupleKeyHash knd k) q ∈ t.place.toList := by rw [q1]; simp
    have hqN : q < N := by
      rcases Nat.lt_trichotomy q N with z | z | z
      · exact z
      · subst z; exact absurd hmemq hN2
      · exact absurd (q2 N z) hN2
    refine ⟨q, i, e, Nat.zero_le _, hqN, ?_, ?_, hke⟩
    · rw [q1]; exact slot_live g.ris (Array.getElem?_eq_getElem hpi)
    · rw [← ei]; simp [hi']
end
end PySem

/-! set(xs): the new set, filled one by one. -/
namespace PySem
abbrev newSetO (led : Bool) : Obj := { cls := .type "set", dict := none, data := .set #[] 0 (.fresh 0 0 led) }
section
variable {prog : Program} {w : World} {A : Around} {E : Value → Shared → Prop} {s : Shared}
set_option maxRecDepth 100000 in
set_option maxHeartbeats 3200000 in
theorem call_set_any {x : Value} {Q : Value → Shared → Prop}
    (up : ∀ (led : Bool) (E' : Value → Shared → Prop), wpAny (model prog w) A.in1.in1 (Builtin.Frozenset.updateFrom "set.__init__" s.heap.objs.size x) (fun _ s2 => Q (.ref s.heap.objs.size) s2) E' { s with heap := s.heap.push (newSetO led) }) :
    wpAny (model prog w) A (call (.type "set") [x]) Q E s := by
  obtain ⟨c0, tl0, hm0⟩ := F.called_set.mro
  have made0 := F.called_set.made
  have sub0 := F.called_set.sub
  refine wpAny_call (codeAny_of_tree ?_)
  show wpAny _ _ (callAny (.type "set") _) _ _ _
  refine wpAny_pure ⟨Code.quiet_builtin _ (by decide +kernel), codeAny_builtin F.entry_type_call ?_⟩
  rw [Around.under_plain (weight_type_call_type "set" [x] []) rfl]
  have n0 := F.called_set.notType
  have n1 := F.called_set.canCreate
  have ct0 := F.typeCall_set_1 x
  repeat (any_goals (first | assumption | wp_step))
  refine codeAny_mono (code_set_new_1 x (E := E) (Q₁ := fun v s1 => ∃ led : Bool, v = .ref s.heap.objs.size ∧ s1 = { s with heap := s.heap.push (newSetO led) }) fun led => ⟨led, rfl, rfl⟩) fun r0 s0 hr0 => ?_
  cases r0 with
  | error e => exact hr0
  | ok f0 =>
    cases f0 with
    | ret v0 =>
      obtain ⟨led, rfl, rfl⟩ := hr0
      have hS0 : (s.heap.push (newSetO led)).get? s.heap.objs.size = some (newSetO led) := Heap.get?_push_size _ rfl
      have hT0 : Shared.TypeIs { s with heap := s.heap.push (newSetO led) } (.ref s.heap.objs.size) "set" := ⟨_, hS0, rfl⟩
      have li0 := F.called_set.init.lookup
      have bi0 := F.called_set.init.bind (.ref s.heap.objs.size)
      repeat (any_goals (first | assumption | wp_step))
      refine codeAny_mono (codeAny_call_builtin (R := wants (fun r s2 => r = .none ∧ Q (.ref s.heap.objs.size) s2) E) F.called_set.init.plain F.entry_set_init (check_set_init_1 hT0 ?_)) fun r1 s1 hr1 => ?_
      · unfold Builtin.«set.__init__» noKeywords
        have up0 := up led
        generalize Builtin.Frozenset.updateFrom = UF at up0 ⊢
        wp_walk
        refine wpAny_mono (up0 _) (fun _ s2 hq => ?_) fun _ _ e => e
        first | exact wpAny_pure ⟨rfl, hq⟩ | exact wpAny_pure (wpAny_pure ⟨rfl, hq⟩) | exact wpAny_bind (wpAny_pure (wpAny_pure ⟨rfl, hq⟩))
      · cases r1 with
        | error e => exact hr1
        | ok f1 =>
          cases f1 with
          | ret r =>
            obtain ⟨rfl, hq⟩ := hr1
            repeat (any_goals (first | assumption | wp_step))
          | _ => exact hr1.elim
    | _ => exact hr0.elim
end
end PySem

namespace PySem
section
variable {prog : Program} {w : World} {B : Around} {E : Value → Shared → Prop} {s : Shared}
theorem set_loop {R : Result → Shared → Prop} {I : Addr} {fp wr : List Addr} {n : Nat} {P : Nat → Value → Prop} {St : Nat → Heap → Prop} (W : Walks prog w B.in1 I fp wr n P St) (S : Addr) (hSf : S ∉ fp) (Sx : Nat → Heap → Prop)
    (keep : ∀ i j h h', St j h → Sx i h → (∀ b o, b ∉ wr → h.get? b = some o → h'.get? b = some o) → Sx i h')
    (add : ∀ i v (s' : Shared) (Q : Bool → Shared → Prop) (E' : Value → Shared → Prop), i < n → P i v → Sx i s'.heap → (∀ h' tk c, Heap.SameBut S s'.heap h' → Sx (i + 1) h' → Q c { s' with heap := h', toks := tk }) → wpAny (model prog w) B.in1 (setAdd S v) Q E' s') :
    ∀ (k i : Nat) (s : Shared), n - i = k → i ≤ n → St i s.heap → Sx i s.heap →
      (∀ h' tk, (∀ b o, b ∉ wr → b ≠ S → s.heap.get? b = some o → h'.get? b = some o) → Sx n h' → R (.ok (.ret .none)) { s with heap := h', toks := tk }) →
      codeAny (model prog w) B (.builtin "set.update.loop" ⟨[.ref S, .ref I], []⟩) R s := by
  intro k
  induction k with
  | zero =>
    intro i s hk hi st sx hR
    obtain rfl : i = n := by omega
    refine codeAny_builtin PyProof.Rows.F.entry_set_update_loop ?_
    rw [Around.under_plainId PyProof.Rows.F.plain_set_update_loop _]
    show wpAny _ B.in1 (pyNext (.ref I) >>= _) _ _ s
    refine wpAny_bind (W.done s _ _ st fun h' tk hm => ?_)
    show wpAny _ B.in1 (ret Value.none) _ _ _
    exact wpAny_pure (hR h' tk (fun b o hb _ e => hm b o hb e) (keep _ _ _ _ st sx hm))
  | succ k ih =>
    intro i s hk hi st sx hR
    have hlt : i < n := by omega
    refine codeAny_builtin PyProof.Rows.F.entry_set_update_loop ?_
    rw [Around.under_plainId PyProof.Rows.F.plain_set_update_loop _]
    show wpAny _ B.in1 (pyNext (.ref I) >>= _) _ _ s
    refine wpAny_bind (W.item i s _ _ hlt st fun v h1 t1 hP st1 hm => ?_)
    have sx1 : Sx i h1 := keep _ _ _ _ st sx hm
    show wpAny _ B.in1 (holding [v] (setAdd S v) >>= _) _ _ _
    refine wpAny_bind (wpAny_holding (add i v _ _ _ hlt hP sx1 fun h2 t2 c hsb sx2 => ?_))
    refine wpAny_pure ⟨plainId_quiet PyProof.Rows.F.plain_set_update_loop _, ih (i + 1) _ (by omega) hlt (W.frame _ _ _ st1 fun b hb o e => ?_) sx2 fun h3 t3 hk3 sx3 => ?_⟩
    · show h2.get? b = some o
      rw [hsb.2 b (fun z : b = S => hSf (by rw [← z]; exact hb))]; exact e
    · refine hR h3 t3 (fun b o hb hS e => hk3 b o hb hS ?_) sx3
      show h2.get? b = some o
      rw [hsb.2 b hS]; exact hm b o hb e
set_option maxRecDepth 100000 in
set_option maxHeartbeats 3200000 in
theorem updateFrom_list {id : String} {a l : Addr} {items : Array Value} {Q : Unit → Shared → Prop} (hh : B.handled = none) (hl : s.heap.IsList l items) (hal : a ≠ l) (has : a < s.heap.objs.size) (Sx : Nat → Heap → Prop) (start : Sx 0 s.heap)
    (keep : ∀ i (h h' : Heap), (∃ o, h.get? s.heap.objs.size = some o ∧ o.cls = .type "list_iterator") → Sx i h → (∀ b o, b ≠ s.heap.objs.size → h.get? b = some o → h'.get? b = some o) → Sx i h')
    (keep0 : ∀ (h' : Heap), (∀ b o, s.heap.get? b = some o → h'.get? b = some o) → Sx 0 h')
    (add : ∀ i v (s' : Shared) (Q : Bool → Shared → Prop) (E' : Value → Shared → Prop), items[i]? = some v → Sx i s'.heap → (∀ h' tk c, Heap.SameBut a s'.heap h' → Sx (i + 1) h' → Q c { s' with heap := h', toks := tk }) → wpAny (model prog w) B.in1 (setAdd a v) Q E' s')
    (fin : ∀ h' tk, Sx items.size h' → (∀ b o, b < s.heap.objs.size → b ≠ a → s.heap.get? b = some o → h'.get? b = some o) → Q () { s with heap := h', toks := tk }) :
    wpAny (model prog w) B (Builtin.Frozenset.updateFrom id a (.ref l)) Q E s := by
  obtain ⟨ol, hol, hcl, nl, hdl⟩ := hl
  obtain ⟨oc, od, odt, os⟩ := ol
  simp only at hcl hdl
  subst hcl; subst hdl
  have sl0 := F.sub_list_set
  have sl1 := F.sub_list_frozenset
  have ne0 : (Value.type "list" == Value.type "dict") = false := by decide
  have hl1 : s.heap.IsList l items := ⟨_, hol, rfl, nl, rfl⟩
  unfold Builtin.Frozenset.updateFrom
  generalize hPI : pyIter = PI
  wp_walk
  subst hPI
  refine wpAny_pyIter_list hl1 ?_
  refine wpAny_bind (wpAny_runValue ?_)
  have hlt : l < s.heap.objs.size := Heap.lt_size hol
  refine set_loop (Walks.list (by simp [hh]) _ l (Nat.ne_of_lt hlt) items) a ?_ Sx ?_ (fun i v s' Q E' _ hv sx hq => add i v s' Q E' hv sx hq) (items.size - 0) 0 _ rfl (Nat.zero_le _) ?_ ?_ ?_
  · simp only [List.mem_cons, List.not_mem_nil, or_false, not_or]
    exact ⟨Nat.ne_of_lt has, hal⟩
  · intro i j h h' st sx hk
    obtain ⟨⟨o, e, c, _⟩, _⟩ := st
    exact keep i h h' ⟨o, e, c⟩ sx fun b o hb e => hk b o (by simpa using hb) e
  · exact ⟨⟨_, Heap.get?_push_size _ rfl, rfl, rfl⟩, hl1.push _⟩
  · exact keep0 _ fun b o e => Heap.get?_push_of_some _ e
  · intro h' tk hk sx
    refine wpAny_pure ?_
    refine fin h' tk sx fun b o hb hba e => hk b o ?_ hba (Heap.get?_push_of_some _ e)
    simp only [List.mem_cons, List.not_mem_nil, or_false]
    exact Nat.ne_of_lt hb
end
end PySem

namespace L3
open PySem PySem.Spec PyProof.Rows L2
def ndist {κ : Type} [DecidableEq κ] : List κ → Nat
  | [] => 0
  | x :: xs => if x ∈ xs then ndist xs else ndist xs + 1
theorem ndist_le {κ : Type} [DecidableEq κ] : ∀ xs : List κ, ndist xs ≤ xs.length
  | [] => Nat.le_refl _
  | x :: xs => by
    have := ndist_le xs
    rw [ndist]
    split <;> simp only [List.length_cons] <;> omega
theorem ndist_nodup {κ : Type} [DecidableEq κ] : ∀ xs : List κ, ndist xs = xs.length ↔ xs.Nodup
  | [] => by simp [ndist]
  | x :: xs => by
    have := ndist_le xs
    rw [List.nodup_cons, ← ndist_nodup xs, ndist]
    split
    · rename_i h
      simp only [List.length_cons, h, not_true, false_and, iff_false]; omega
    · rename_i h
      simp only [List.length_cons, h, not_false_eq_true, true_and]; omega
def memD {κ : Type} [DecidableEq κ] (x : κ) (xs : List κ) : Bool := decide (x ∈ xs)
theorem memD_nil {κ : Type} [DecidableEq κ] (x : κ) : memD x [] = false := by simp [memD]
theorem memD_cons {κ : Type} [DecidableEq κ] (x y : κ) (xs : List κ) : memD x (y :: xs) = (memD x xs || decide (x = y)) := by
  unfold memD
  by_cases c : x = y <;> simp [c]
theorem ndist_cons {κ : Type} [DecidableEq κ] (x : κ) (xs : List κ) : ndist (x :: xs) = if memD x xs then ndist xs else ndist xs + 1 := by
  rw [ndist]; simp only [memD, decide_eq_true_eq]
theorem take_rev {κ : Type} {ks : List κ} {i : Nat} {k : κ} (h : ks[i]? = some k) : (ks.take (i + 1)).reverse = k :: (ks.take i).reverse := by
  obtain ⟨hi, e⟩ := List.getElem?_eq_some_iff.mp h
  rw [List.take_succ_eq_append_getElem hi, List.reverse_append, e]; rfl
def sizeIs (a : Addr) (n : Nat) : Heap → Prop := fun h => ∃ o es ep t, h.get? a = some o ∧ o.ExactSet ∧ o.data = .set es ep t ∧ t.fits es.size = true ∧ es.size = n
abbrev SetN (a : Addr) (n : Nat) : HO := .ext (sizeIs a n)
theorem sizeIs_ok {P : Program} {w : World} {H : Hp} {h : Heap} {a : Addr} {n : Nat} (x : sizeIs a n h) : ObjOk P w H h a (SetN a n) := by
  refine ⟨x, let ⟨o, _, _, _, e, _⟩ := x; ⟨o, e⟩, fun h1 h2 x1 k => ?_⟩
  obtain ⟨o, es, ep, t, e, r⟩ := x1
  exact ⟨o, es, ep, t, k o e, r⟩
section
variable {X : Cx}
def KeyV (K : PySem.W.Frag) (H : Hp) (k : List Key) (v : V) : Prop := ∃ b, v = .ref b ∧ SqT K H b (k.map kV)
theorem keyIs_rel {k : Key} {u : Value} (r : RelV (kV k) u) : keyIs k u = true := by
  cases k with
  | inl i => obtain ⟨t, rfl⟩ := r; exact keyIs_int i t
  | inr x => obtain ⟨t, rfl⟩ := r; exact keyIs_str x t
theorem itemsAre_of {P : Program} {w : World} : ∀ {k : List Key} {us : List Value}, Vals (k.map kV) us → ItemsAre (mixKind P w) k us
  | [], _, r => by cases r; exact .nil
  | x :: xs, _, r => by
    cases r with
    | cons r1 r2 => exact .cons (keyIs_rel r1) (itemsAre_of r2)
theorem tupKey_of {pins : List (Addr × Obj)} {σ : L2.St} {H : Hp} {s : Shared} (I : Inv X pins σ H s) {k : List Key} {b : Addr} (h : SqT X.K H b (k.map kV)) : IsTupleKey (mixKind X.prog X.w) s.heap k b := by
  obtain ⟨its, r, ⟨o, ho, hc, n, hd⟩, _⟩ := I.tuple h
  exact ⟨o, its.toArray, n, ho, hc, hd, by simpa using itemsAre_of r⟩
theorem keys_of {pins : List (Addr × Obj)} {σ : L2.St} {H : Hp} {s : Shared} (I : Inv X pins σ H s) : ∀ {ks : List (List Key)} {ys : List V} {us : List Value}, Paired (KeyV X.K H) ks ys → Vals ys us → ∀ (i : Nat) (v : Value), us[i]? = some v → ∃ k b, ks[i]? = some k ∧ v = Value.ref b ∧ IsTupleKey (mixKind X.prog X.w) s.heap k b
  | _, _, _, .nil, r, i, v, e => by cases r; simp at e
  | k :: ks, y :: ys, _, .cons p ps, r, i, v, e => by
    cases r with
    | cons r1 r2 =>
      cases i with
      | zero =>
        simp at e; subst e
        obtain ⟨b, rfl, q⟩ := p
        cases r1
        exact ⟨k, b, rfl, rfl, tupKey_of I q⟩
      | succ i =>
        obtain ⟨k', b, h1, h2, h3⟩ := keys_of I ps r2 i v (by simpa using e)
        exact ⟨k', b, by simpa using h1, h2, h3⟩
theorem tupSet_new {P : Program} {w : World} {h : Heap} (led : Bool) : (h.push (newSetO led)).TupSet (mixKind P w) h.objs.size (fun _ => false) 0 := by
  refine ⟨_, #[], 0, _, Heap.get?_push_size _ rfl, ⟨rfl, rfl, rfl⟩, rfl, ⟨⟨3, Nat.le_refl _, rfl⟩, rfl, List.Pairwise.nil, (by intro j hj; cases hj), rfl, Nat.zero_le _, (by intro x hx; cases hx)⟩, (by intro e he; cases he), ?_, rfl, (show 0 * 5 < 7 * 3 by decide), .inl (show 7 < 8 by decide)⟩
  intro k
  constructor
  · intro h; cases h
  · rintro ⟨e, he, _⟩; cases he
theorem TupSet.keeps {P : Program} {w : World} {h h' : Heap} {a : Addr} {S : List Key → Bool} {n : Nat} (x : h.TupSet (mixKind P w) a S n) {I : Addr} (hI : ∃ o, h.get? I = some o ∧ o.cls ≠ .type "tuple" ∧ o.cls ≠ .type "set") (k : ∀ b o, b ≠ I → h.get? b = some o → h'.get? b = some o) :
    h'.TupSet (mixKind P w) a S n := by
  obtain ⟨o, es, ep, t, ho, hex, hd, g, hel, hmem, hn, r⟩ := x
  obtain ⟨oI, hI, c1, c2⟩ := hI
  have ha : a ≠ I := by
    rintro rfl
    rw [ho] at hI; cases hI
    exact c2 hex.1
  have tk : ∀ k' b, IsTupleKey (mixKind P w) h k' b → IsTupleKey (mixKind P w) h' k' b := fun k' b ⟨ob, its, m, e1, e2, e3⟩ => by
    refine ⟨ob, its, m, k b ob ?_ e1, e2, e3⟩
    rintro rfl
    rw [e1] at hI; cases hI
    exact c1 e2
  have tkr : ∀ k' b, (∃ k'', IsTupleKey (mixKind P w) h k'' b) → IsTupleKey (mixKind P w) h' k' b → IsTupleKey (mixKind P w) h k' b := fun k' b ⟨k'', z⟩ y => by
    have := (tk k'' b z).inj y
    subst this; exact z
  refine ⟨o, es, ep, t, k a o ha ho, hex, hd, g, fun e he => ?_, fun k' => ?_, hn, r⟩
  · obtain ⟨k', b, e1, e2, e3⟩ := hel e he
    exact ⟨k', b, e1, tk _ _ e2, e3⟩
  · rw [hmem k']
    constructor
    · rintro ⟨e, he, b, e1, e2, e3⟩
      exact ⟨e, he, b, e1, tk _ _ e2, e3⟩
    · rintro ⟨e, he, b, e1, e2, e3⟩
      obtain ⟨k'', b'', f1, f2, f3⟩ := hel e he
      rw [e1] at f1; cases f1
      exact ⟨e, he, b, e1, tkr _ _ ⟨k'', f2⟩ e2, e3⟩
def rSetT (X : Cx) : List V → Hp → VK → Prop := fun xs H Q => ∃ p ys ks, xs = [.ref p] ∧ SqL X.K H p ys ∧ Paired (KeyV X.K H) ks ys ∧ ks.length ≤ 999 ∧ ∀ q, H q = none → Q (.ref q) (upd H q (SetN q (ndist ks.reverse)))
theorem call_setT {k0 : Nat} (hr : Room k0 X.A) (hc : X.calm = true) : CallR X (.type "set") (rSetT X) := by
  intro pins s σ H xs us Q I r h
  obtain ⟨p, ys, ks, rfl, hq, hks, hz, q⟩ := h
  obtain ⟨u, rfl, rx⟩ := vals1 r
  cases rx
  obtain ⟨its, rv, pl, _⟩ := I.list hq
  have hlen : ks.length = its.length := by rw [hks.length, rv.length]
  have hkeys := keys_of I hks rv
  have hlt : p < s.heap.objs.size := by obtain ⟨_, _, e, _⟩ := pl; exact Heap.lt_size e
  refine call_set_any fun led E' => ?_
  refine updateFrom_list (s := { s with heap := s.heap.push (newSetO led) }) (items := its.toArray) (by simp [I.ok.hd hc]) (pl.isList.push _) (Nat.ne_of_gt hlt) (by rw [Heap.size_push]; exact Nat.lt_succ_self _)
    (fun i h => h.TupSet (mixKind X.prog X.w) s.heap.objs.size (fun k : List Key => memD k (ks.take i).reverse) (ndist (ks.take i).reverse) ∧ ∀ (j : Nat) (v : Value) (k : List Key) (b : Addr), its[j]? = some v → v = Value.ref b → ks[j]? = some k → IsTupleKey (mixKind X.prog X.w) h k b) ?_ ?_ ?_ ?_ ?_
  · refine ⟨?_, fun j v k b e1 e2 e3 => ?_⟩
    · have := tupSet_new (P := X.prog) (w := X.w) (h := s.heap) led
      simpa [memD_nil, ndist] using this
    · subst e2
      obtain ⟨k', b', h1, h2, h3⟩ := hkeys j _ e1
      rw [e3] at h1; cases h1; cases h2
      obtain ⟨ob, it, m, e1, r⟩ := h3
      exact ⟨ob, it, m, Heap.get?_push_of_some _ e1, r⟩
  · rintro i h h' ⟨oI, hI, cI⟩ ⟨x1, x2⟩ k
    have nt : oI.cls ≠ .type "tuple" := by rw [cI]; decide
    refine ⟨TupSet.keeps x1 ⟨oI, hI, nt, by rw [cI]; decide⟩ k, fun j v k' b e1 e2 e3 => ?_⟩
    obtain ⟨ob, it, m, f1, f2, f3⟩ := x2 j v k' b e1 e2 e3
    refine ⟨ob, it, m, k b ob ?_ f1, f2, f3⟩
    rintro rfl
    rw [f1] at hI; cases hI
    exact nt f2
  · intro h' k
    have x := tupSet_new (P := X.prog) (w := X.w) (h := s.heap) led
    refine ⟨?_, fun j v k' b e1 e2 e3 => ?_⟩
    · obtain ⟨o, es, ep, t, ho, hex, hd, g, hel, hmem, hn, r⟩ := x
      have hes : es = #[] := Array.eq_empty_of_size_eq_zero hn
      subst hes
      refine ⟨o, #[], ep, t, k _ _ ho, hex, hd, g, (by intro e he; cases he), fun k' => ?_, rfl, r⟩
      simp [memD_nil]
    · subst e2
      obtain ⟨k'', b', h1, h2, h3⟩ := hkeys j _ e1
      rw [e3] at h1; cases h1; cases h2
      obtain ⟨ob, it, m, e1, r⟩ := h3
      exact ⟨ob, it, m, k _ _ (Heap.get?_push_of_some _ e1), r⟩
  · rintro i v s' Q' E'' hv ⟨x1, x2⟩ hq'
    have hv' : its[i]? = some v := by simpa using hv
    obtain ⟨k, b, h1, h2, _⟩ := hkeys i v hv'
    subst h2
    have hkb := x2 i _ k b hv' rfl h1
    have hi : i < ks.length := (List.getElem?_eq_some_iff.mp h1).1
    have hu : X.A.in1.in1.in1.units < cLine := by have := hr.un; show X.A.units + 1 + 1 + 1 < cLine; omega
    unfold setAdd
    refine wpAny_holding (wpAny_bind (wpAny_pyHash_tuple hu hkb ?_))
    have hroom : ndist (ks.take i).reverse < 1000 := by
      have := ndist_le (ks.take i).reverse
      rw [List.length_reverse, List.length_take] at this
      omega
    refine wpAny_setAdd_tup (s := { s' with toks := s'.toks + (k.length + 1) }) hu x1 hkb hroom fun h' hsb hS => ?_
    refine hq' h' _ _ hsb ⟨?_, fun j v k' b' e1 e2 e3 => ?_⟩
    · rw [take_rev h1]
      have e1 : (fun k' => memD k' (k :: (ks.take i).reverse)) = fun k' => memD k' (ks.take i).reverse || decide (k' = k) := funext fun k' => memD_cons _ _ _
      rw [e1, ndist_cons]
      exact hS
    · obtain ⟨o, es, ep, t, ho, _, hd, _⟩ := x1
      exact (x2 j v k' b' e1 e2 e3).but ho hd hsb
  · rintro h' tk ⟨x1, _⟩ hk
    have hsz : its.toArray.size = ks.length := by rw [List.size_toArray, hlen]
    rw [hsz, List.take_length] at x1
    have x3 : sizeIs s.heap.objs.size (ndist ks.reverse) h' := by
      obtain ⟨o, es, ep, t, ho, hex, hd, g, _, _, hn, _⟩ := x1
      exact ⟨o, es, ep, t, ho, hex, hd, by have := g.fits; simpa using this, hn⟩
    refine ⟨.ref s.heap.objs.size, _, I.laid (t' := tk) (fun b o e => ?_) (Nat.le_refl _) (sizeIs_ok x3), rfl, q _ (I.hok.fresh (Nat.le_refl _))⟩
    have hb := Heap.lt_size e
    refine hk b o ?_ (Nat.ne_of_lt hb) (Heap.get?_push_of_some _ e)
    rw [Heap.size_push]; exact Nat.lt_succ_of_lt hb
theorem call_len_set : CallR X (.builtin "len") (fun xs H Q => ∃ a n, xs = [.ref a] ∧ H a = some (SetN a n) ∧ n ≤ 100000 ∧ Q (.int n) H) := by
  intro pins s σ H xs us Q I r h
  obtain ⟨a, n, rfl, ha, hn, q⟩ := h
  obtain ⟨u, rfl, rx⟩ := vals1 r
  cases rx
  obtain ⟨⟨o, es, ep, t, ho, hex, hd, hf, e⟩, _⟩ := (show ObjOk X.prog X.w H s.heap a (SetN a n) from I.hok a _ ha)
  exact PySem.call_len_set ho hex hd hf (by omega) ⟨.int n, H, I.tok _, ⟨_, by rw [e]⟩, q⟩
end
end L3

namespace L3
open PySem PySem.Spec PyProof.Rows L2
section
variable {X : Cx}
theorem keysV : ∀ {ks : List Key} {us : List Value}, Vals (ks.map kV) us → ∀ (i : Nat) (v : Value), us[i]? = some v → ∃ k, ks[i]? = some k ∧ keyIs k v = true ∧ v.scannable = true
  | [], _, r, i, v, e => by cases r; simp at e
  | k :: ks, _, r, i, v, e => by
    cases r with
    | cons r1 r2 =>
      cases i with
      | zero =>
        simp at e; subst e
        refine ⟨k, rfl, keyIs_rel r1, ?_⟩
        cases k with
        | inl i => obtain ⟨t, rfl⟩ := r1; rfl
        | inr x => obtain ⟨t, rfl⟩ := r1; rfl
      | succ i =>
        obtain ⟨k', h1, h2⟩ := keysV r2 i v (by simpa using e)
        exact ⟨k', by simpa using h1, h2⟩
def rSetK (X : Cx) : List V → Hp → VK → Prop := fun xs H Q => ∃ (p : Addr) (ks : List Key), xs = [.ref p] ∧ SqL X.K H p (ks.map kV) ∧ ks.length ≤ 4000 ∧ ∀ q, H q = none → Q (.ref q) (upd H q (SetN q (ndist ks.reverse)))
theorem call_setK (hc : X.calm = true) : CallR X (.type "set") (rSetK X) := by
  intro pins s σ H xs us Q I r h
  obtain ⟨p, ks, rfl, hq, hz, q⟩ := h
  obtain ⟨u, rfl, rx⟩ := vals1 r
  cases rx
  obtain ⟨its, rv, pl, _⟩ := I.list hq
  have hlen : ks.length = its.length := by rw [← rv.length, List.length_map]
  have hkeys := keysV rv
  have hlt : p < s.heap.objs.size := by obtain ⟨_, _, e, _⟩ := pl; exact Heap.lt_size e
  refine call_set_any fun led E' => ?_
  have st0 : (s.heap.push (newSetO led)).SetOf (mixKind X.prog X.w) s.heap.objs.size (fun k => memD k (ks.take 0).reverse) (ndist (ks.take 0).reverse) := by
    refine ⟨_, #[], 0, _, Heap.get?_push_size _ rfl, ⟨rfl, rfl, rfl⟩, rfl, (by intro e he; cases he), fun k => ?_, (by decide), rfl, rfl⟩
    simp [memD_nil]
  refine updateFrom_list (s := { s with heap := s.heap.push (newSetO led) }) (items := its.toArray) (by simp [I.ok.hd hc]) (pl.isList.push _) (Nat.ne_of_gt hlt) (by rw [Heap.size_push]; exact Nat.lt_succ_self _)
    (fun i h => h.SetOf (mixKind X.prog X.w) s.heap.objs.size (fun k => memD k (ks.take i).reverse) (ndist (ks.take i).reverse)) st0 ?_ ?_ ?_ ?_
  · rintro i h h' ⟨oI, hI, cI⟩ ⟨o, es, ep, t, ho, hex, r⟩ k
    refine ⟨o, es, ep, t, k _ o ?_ ho, hex, r⟩
    intro z
    rw [z, hI] at ho; cases ho
    exact absurd (cI.symm.trans hex.1) (by decide)
  · intro h' k
    obtain ⟨o, es, ep, t, ho, r⟩ := st0
    exact ⟨o, es, ep, t, k _ _ ho, r⟩
  · rintro i v s' Q' E'' hv x1 hq'
    obtain ⟨k, h1, h2, h3⟩ := hkeys i v (by simpa using hv)
    have hi : i < ks.length := (List.getElem?_eq_some_iff.mp h1).1
    unfold setAdd
    refine wpAny_holding (wpAny_bind ((mixKind X.prog X.w).pyHash (k := k) h2 ?_))
    have hroom : ndist (ks.take i).reverse + 1 < scanBound := by
      have := ndist_le (ks.take i).reverse
      rw [List.length_reverse, List.length_take] at this
      unfold scanBound; omega
    refine wpAny_setAddHashed_of (knd := mixKind X.prog X.w) (s := { s' with toks := s'.toks + 1 }) h2 h3 x1 hroom fun h' hsb hS => ?_
    refine hq' h' _ _ hsb ?_
    show h'.SetOf (mixKind X.prog X.w) s.heap.objs.size (fun k => memD k (ks.take (i + 1)).reverse) (ndist (ks.take (i + 1)).reverse)
    rw [take_rev h1, ndist_cons, show (fun k' => memD k' (k :: (ks.take i).reverse)) = fun k' => memD k' (ks.take i).reverse || decide (k' = k) from funext fun k' => memD_cons _ _ _]
    exact hS
  · intro h' tk x1 hk
    have hsz : its.toArray.size = ks.length := by rw [List.size_toArray, hlen]
    rw [hsz, List.take_length] at x1
    have x3 : sizeIs s.heap.objs.size (ndist ks.reverse) h' := by
      obtain ⟨o, es, ep, t, ho, hex, hd, _, _, _, hf, hn⟩ := x1
      exact ⟨o, es, ep, t, ho, hex, hd, hf, hn⟩
    refine ⟨.ref s.heap.objs.size, _, I.laid (t' := tk) (fun b o e => ?_) (Nat.le_refl _) (sizeIs_ok x3), rfl, q _ (I.hok.fresh (Nat.le_refl _))⟩
    have hb := Heap.lt_size e
    refine hk b o ?_ (Nat.ne_of_lt hb) (Heap.get?_push_of_some _ e)
    rw [Heap.size_push]; exact Nat.lt_succ_of_lt hb
theorem call_set {k0 : Nat} (hr : Room k0 X.A) (hc : X.calm = true) : CallR X (.type "set") (fun xs H Q => rSetT X xs H Q ∨ rSetK X xs H Q) := CallR.or (call_setT hr hc) (call_setK hc)
end
theorem bt_set : bootBuiltins "set" = some (.type "set") := by decide +kernel
end L3

/-! set(text): its letters. -/
namespace L3
open PySem PySem.Spec PyProof.Rows L2
section
variable {prog : Program} {w : World} {B : Around} {E : Value → Shared → Prop} {s : Shared}
set_option maxRecDepth 100000 in
set_option maxHeartbeats 3200000 in
theorem updateFrom_str {id : String} {a : Addr} {z : Str} {t : Tok} {Q : Unit → Shared → Prop} (hh : B.handled = none) (has : a < s.heap.objs.size) (Sx : Nat → Heap → Prop)
    (keep : ∀ i (h h' : Heap), Sx i h → (∀ o, h.get? a = some o → h'.get? a = some o) → Sx i h') (start : Sx 0 s.heap)
    (add : ∀ i v (s' : Shared) (Q : Bool → Shared → Prop) (E' : Value → Shared → Prop), SignAt z i v → Sx i s'.heap → (∀ h' tk c, Heap.SameBut a s'.heap h' → Sx (i + 1) h' → Q c { s' with heap := h', toks := tk }) → wpAny (model prog w) B.in1 (setAdd a v) Q E' s')
    (fin : ∀ h' tk, Sx z.cps.size h' → (∀ b o, b < s.heap.objs.size → b ≠ a → s.heap.get? b = some o → h'.get? b = some o) → Q () { s with heap := h', toks := tk }) :
    wpAny (model prog w) B (Builtin.Frozenset.updateFrom id a (.str z t)) Q E s := by
  have sl0 : isSubtype (.type "str") (.type "set") = pure false := by rw [isSubtype_type]; kernel_rfl
  have sl1 : isSubtype (.type "str") (.type "frozenset") = pure false := by rw [isSubtype_type]; kernel_rfl
  have ne0 : (Value.type "str" == Value.type "dict") = false := by decide
  unfold Builtin.Frozenset.updateFrom
  generalize hPI : pyIter = PI
  wp_walk
  subst hPI
  refine wpAny_pyIter_str fun o St W st => ?_
  refine wpAny_bind (wpAny_runValue ?_)
  refine set_loop (W B.in1 (by simp [hh])) a ?_ Sx ?_ (fun i v s' Q E' _ hv sx hq => add i v s' Q E' hv sx hq) (z.cps.size - 0) 0 _ rfl (Nat.zero_le _) ?_ ?_ ?_
  · simp only [List.mem_cons, List.not_mem_nil, or_false]
    exact Nat.ne_of_lt has
  · intro i j h h' _ sx hk
    exact keep i h h' sx fun o e => hk a o (by simp only [List.mem_cons, List.not_mem_nil, or_false]; exact Nat.ne_of_lt has) e
  · exact st
  · exact keep 0 _ _ start fun o' e => Heap.get?_push_of_some _ e
  · intro h' tk hk sx
    refine wpAny_pure ?_
    refine fin h' tk sx fun b o' hb hba e => hk b o' ?_ hba (Heap.get?_push_of_some _ e)
    simp only [List.mem_cons, List.not_mem_nil, or_false]
    exact Nat.ne_of_lt hb
end
section
variable {X : Cx}
def rSetS : List V → Hp → VK → Prop := fun xs H Q => ∃ z : Str, xs = [.str z] ∧ z.length ≤ 4000 ∧ ∀ q, H q = none → Q (.ref q) (upd H q (SetN q (ndist (cl z).reverse)))
theorem ndist_inj {α β : Type} [DecidableEq α] [DecidableEq β] {f : α → β} (inj : ∀ a b, f a = f b → a = b) : ∀ xs : List α, ndist (xs.map f) = ndist xs
  | [] => rfl
  | x :: xs => by
    rw [List.map_cons, ndist_cons, ndist_cons, ndist_inj inj xs]
    have : memD (f x) (xs.map f) = memD x xs := by
      unfold memD
      rw [Bool.eq_iff_iff]
      simp only [decide_eq_true_eq, List.mem_map]
      exact ⟨fun ⟨y, h1, h2⟩ => inj _ _ h2 ▸ h1, fun h => ⟨x, h, rfl⟩⟩
    rw [this]
theorem call_setS (hc : X.calm = true) : CallR X (.type "set") rSetS := by
  intro pins s σ H xs us Q I r h
  obtain ⟨z, rfl, hz, q⟩ := h
  obtain ⟨u, rfl, t, rfl⟩ := vals1 r
  have hzl : z.cps.size = z.length := rfl
  have hks : ∀ i c, z.cps[i]? = some c → ((cl z).map fun c => (Sum.inr (⟨#[c]⟩ : Str) : Key))[i]? = some (Sum.inr (⟨#[c]⟩ : Str)) := fun i c e => by
    rw [List.getElem?_map]
    show Option.map _ (z.cps.toList[i]?) = _
    rw [Array.getElem?_toList, e]; rfl
  have hkl : ((cl z).map fun c => (Sum.inr (⟨#[c]⟩ : Str) : Key)).length = z.cps.size := by rw [List.length_map]; exact cl_length z
  have hnd : ndist ((cl z).map fun c => (Sum.inr (⟨#[c]⟩ : Str) : Key)).reverse = ndist (cl z).reverse := by
    rw [← List.map_reverse]
    exact ndist_inj (fun a b h => by injection h with h; injection h with h; injection h with h; injection h) _
  generalize ((cl z).map fun c => (Sum.inr (⟨#[c]⟩ : Str) : Key)) = ks at hks hkl hnd
  refine call_set_any fun led E' => ?_
  have st0 : (s.heap.push (newSetO led)).SetOf (mixKind X.prog X.w) s.heap.objs.size (fun k => memD k (ks.take 0).reverse) (ndist (ks.take 0).reverse) := by
    refine ⟨_, #[], 0, _, Heap.get?_push_size _ rfl, ⟨rfl, rfl, rfl⟩, rfl, (by intro e he; cases he), fun k => ?_, (by decide), rfl, rfl⟩
    simp [memD_nil]
  refine updateFrom_str (s := { s with heap := s.heap.push (newSetO led) }) (by simp [I.ok.hd hc]) (by rw [Heap.size_push]; exact Nat.lt_succ_self _)
    (fun i h => h.SetOf (mixKind X.prog X.w) s.heap.objs.size (fun k => memD k (ks.take i).reverse) (ndist (ks.take i).reverse)) ?_ st0 ?_ ?_
  · rintro i h h' ⟨o, es, ep, t, ho, r⟩ k
    exact ⟨o, es, ep, t, k o ho, r⟩
  · rintro i v s' Q' E'' hv x1 hq'
    obtain ⟨c, t', ec, rfl⟩ := hv
    have h1 := hks i c ec
    have h2 : keyIs (Sum.inr (⟨#[c]⟩ : Str)) (.str ⟨#[c]⟩ t') = true := keyIs_str _ _
    have hi : i < ks.length := (List.getElem?_eq_some_iff.mp h1).1
    unfold setAdd
    refine wpAny_holding (wpAny_bind ((mixKind X.prog X.w).pyHash (k := Sum.inr (⟨#[c]⟩ : Str)) h2 ?_))
    have hroom : ndist (ks.take i).reverse + 1 < scanBound := by
      have := ndist_le (ks.take i).reverse
      rw [List.length_reverse, List.length_take] at this
      unfold scanBound; omega
    refine wpAny_setAddHashed_of (knd := mixKind X.prog X.w) (s := { s' with toks := s'.toks + 1 }) h2 rfl x1 hroom fun h' hsb hS => ?_
    refine hq' h' _ _ hsb ?_
    show h'.SetOf (mixKind X.prog X.w) s.heap.objs.size (fun k => memD k (ks.take (i + 1)).reverse) (ndist (ks.take (i + 1)).reverse)
    rw [take_rev h1, ndist_cons, show (fun k' => memD k' (Sum.inr (⟨#[c]⟩ : Str) :: (ks.take i).reverse)) = fun k' => memD k' (ks.take i).reverse || decide (k' = Sum.inr (⟨#[c]⟩ : Str)) from funext fun k' => memD_cons _ _ _]
    exact hS
  · intro h' tk x1 hk
    rw [← hkl, List.take_length, hnd] at x1
    have x3 : sizeIs s.heap.objs.size (ndist (cl z).reverse) h' := by
      obtain ⟨o, es, ep, t, ho, hex, hd, _, _, _, hf, hn⟩ := x1
      exact ⟨o, es, ep, t, ho, hex, hd, hf, hn⟩
    refine ⟨.ref s.heap.objs.size, _, I.laid (t' := tk) (fun b o e => ?_) (Nat.le_refl _) (sizeIs_ok x3), rfl, q _ (I.hok.fresh (Nat.le_refl _))⟩
    have hb := Heap.lt_size e
    refine hk b o ?_ (Nat.ne_of_lt hb) (Heap.get?_push_of_some _ e)
    rw [Heap.size_push]; exact Nat.lt_succ_of_lt hb
end
end L3

/-! Marks, steps, scribes in the heap; what stays while lists change. -/
namespace L3
open PySem PySem.Spec PyProof.Rows L2
abbrev Mk := Int × Str
abbrev Stp := Int × Str × Str × Int
def Grow (H H' : Hp) : Prop := ∀ b o, H b = some o → (∀ xs, o ≠ .lst xs) → H' b = some o
theorem Grow.trans {H H' H'' : Hp} (g : Grow H H') (g' : Grow H' H'') : Grow H H'' := fun b o h n => g' b o (g b o h n) n
theorem Same.grow {H H' : Hp} (g : Same H H') : Grow H H' := fun b o h _ => g b o h
theorem grow_upd {H : Hp} {p : Addr} {xs : List V} (h : H p = some (.lst xs)) (o : HO) : Grow H (upd H p o) := fun b u q n => by
  rw [upd_ne]
  · exact q
  · rintro rfl; rw [h] at q; cases q; exact n xs rfl
theorem Grow.seqT {K : PySem.W.Frag} {H H' : Hp} {a : Addr} {xs : List V} (e : Grow H H') (h : SqT K H a xs) : SqT K H' a xs := by
  rcases h with (h | ⟨o, h⟩) | h
  · exact .inl (.inl (e _ _ h (by intro _ q; cases q)))
  · exact .inl (.inr ⟨o, e _ _ h (by intro _ q; cases q)⟩)
  · exact .inr h
def MkV (K : PySem.W.Frag) (H : Hp) (m : Mk) (v : V) : Prop := ∃ b, v = .ref b ∧ SqT K H b [.int m.1, .str m.2]
def StV (K : PySem.W.Frag) (H : Hp) (t : Stp) (v : V) : Prop := ∃ b, v = .ref b ∧ SqT K H b [.int t.1, .str t.2.1, .str t.2.2.1, .int t.2.2.2]
theorem MkV.mono {K : PySem.W.Frag} {H H' : Hp} {m : Mk} {v : V} (g : Grow H H') : MkV K H m v → MkV K H' m v := fun ⟨b, e, h⟩ => ⟨b, e, g.seqT h⟩
theorem StV.mono {K : PySem.W.Frag} {H H' : Hp} {m : Stp} {v : V} (g : Grow H H') : StV K H m v → StV K H' m v := fun ⟨b, e, h⟩ => ⟨b, e, g.seqT h⟩
theorem paired_mono {α β : Type} {F G : α → β → Prop} (h : ∀ a b, F a b → G a b) : ∀ {xs : List α} {ys : List β}, Paired F xs ys → Paired G xs ys
  | _, _, .nil => .nil
  | _, _, .cons p q => .cons (h _ _ p) (paired_mono h q)
theorem paired_append {α β : Type} {F : α → β → Prop} : ∀ {xs xs' : List α} {ys ys' : List β}, Paired F xs ys → Paired F xs' ys' → Paired F (xs ++ xs') (ys ++ ys')
  | _, _, _, _, .nil, q => q
  | _, _, _, _, .cons p r, q => .cons p (paired_append r q)
theorem paired_get {α β : Type} {F : α → β → Prop} : ∀ {xs : List α} {ys : List β} {i : Nat} {y : β}, Paired F xs ys → ys[i]? = some y → ∃ x, xs[i]? = some x ∧ F x y
  | _, _, _, _, .nil, e => by simp at e
  | _, _, 0, _, .cons p _, e => by simp at e; subst e; exact ⟨_, rfl, p⟩
  | _, _, i + 1, y, .cons _ q, e => by
    obtain ⟨x, h1, h2⟩ := paired_get (i := i) (y := y) q (by simpa using e)
    exact ⟨x, by simpa using h1, h2⟩
structure Scr where
  signs : Str
  rooms : Int
  begins : List Mk
  steps : List Stp
  ends : List Mk
def ScV (K : PySem.W.Frag) (H : Hp) (s : Scr) (v : V) (pb ps pe : Addr) : Prop := ∃ a xb xs xe, v = .ref a ∧ SqT K H a [.str s.signs, .int s.rooms, .ref pb, .ref ps, .ref pe] ∧ SqL K H pb xb ∧ SqL K H ps xs ∧ SqL K H pe xe ∧
  Paired (MkV K H) s.begins xb ∧ Paired (StV K H) s.steps xs ∧ Paired (MkV K H) s.ends xe
theorem ScV.mono {K : PySem.W.Frag} {H H' : Hp} {s : Scr} {v : V} {pb ps pe : Addr} (g : Same H H') : ScV K H s v pb ps pe → ScV K H' s v pb ps pe
  | ⟨a, xb, xs, xe, e, h1, h2, h3, h4, h5, h6, h7⟩ => ⟨a, xb, xs, xe, e, Same.seqT g h1, g.seq h2, g.seq h3, g.seq h4, paired_mono (fun _ _ => MkV.mono (Same.grow g)) h5, paired_mono (fun _ _ => StV.mono (Same.grow g)) h6, paired_mono (fun _ _ => MkV.mono (Same.grow g)) h7⟩
/-! as deep data -/
def dMk (m : Mk) : D := .tup [.int m.1, .str m.2]
def dSt (t : Stp) : D := .tup [.int t.1, .str t.2.1, .str t.2.2.1, .int t.2.2.2]
def dScr (s : Scr) : D := .tup [.str s.signs, .int s.rooms, .lst (s.begins.map dMk), .lst (s.steps.map dSt), .lst (s.ends.map dMk)]
theorem rep_int {K : PySem.W.Frag} {H : Hp} (i : Int) : Rep K H (.int i) (.int i) := by unfold Rep; rfl
theorem rep_str {K : PySem.W.Frag} {H : Hp} (x : Str) : Rep K H (.str x) (.str x) := by unfold Rep; rfl
theorem rep_tup {K : PySem.W.Frag} {H : Hp} {a : Addr} {xs : List V} {ds : List D} (h : SqT K H a xs) (r : Reps K H ds xs) : Rep K H (.tup ds) (.ref a) := by unfold Rep; exact ⟨a, xs, rfl, h, r⟩
theorem rep_lst {K : PySem.W.Frag} {H : Hp} {a : Addr} {xs : List V} {ds : List D} (h : SqL K H a xs) (r : Reps K H ds xs) : Rep K H (.lst ds) (.ref a) := by unfold Rep; exact ⟨a, xs, rfl, h, r⟩
theorem MkV.rep {K : PySem.W.Frag} {H : Hp} {m : Mk} {v : V} : MkV K H m v → Rep K H (dMk m) v
  | ⟨_, e, h⟩ => by subst e; exact rep_tup h (.cons (rep_int _) (.cons (rep_str _) .nil))
theorem StV.rep {K : PySem.W.Frag} {H : Hp} {m : Stp} {v : V} : StV K H m v → Rep K H (dSt m) v
  | ⟨_, e, h⟩ => by subst e; exact rep_tup h (.cons (rep_int _) (.cons (rep_str _) (.cons (rep_str _) (.cons (rep_int _) .nil))))
theorem reps_of {K : PySem.W.Frag} {H : Hp} {α : Type} {F : α → V → Prop} {f : α → D} (h : ∀ a v, F a v → Rep K H (f a) v) : ∀ {xs : List α} {vs : List V}, Paired F xs vs → Reps K H (xs.map f) vs
  | _, _, .nil => .nil
  | _, _, .cons p q => .cons (h _ _ p) (reps_of h q)
theorem ScV.rep {K : PySem.W.Frag} {H : Hp} {s : Scr} {v : V} {pb ps pe : Addr} : ScV K H s v pb ps pe → Rep K H (dScr s) v
  | ⟨a, xb, xs, xe, e, h1, h2, h3, h4, h5, h6, h7⟩ => by
    subst e
    exact rep_tup h1 (.cons (rep_str _) (.cons (rep_int _) (.cons (rep_lst h2 (reps_of (f := dMk) (F := MkV K H) (fun _ _ h => MkV.rep h) h5)) (.cons (rep_lst h3 (reps_of (f := dSt) (F := StV K H) (fun _ _ h => StV.rep h) h6)) (.cons (rep_lst h4 (reps_of (f := dMk) (F := MkV K H) (fun _ _ h => MkV.rep h) h7)) .nil)))))
theorem deeps_map {α : Type} (f : α → D) (n : Nat) (h : ∀ a, deep (f a) ≤ n) : ∀ xs : List α, deeps (xs.map f) ≤ n
  | [] => by rw [List.map_nil, deeps]; exact Nat.zero_le _
  | x :: xs => by
    have h1 := h x
    have h2 := deeps_map f n h xs
    rw [List.map_cons, deeps]; omega
theorem deep_dMk (m : Mk) : deep (dMk m) ≤ 1 := by unfold dMk; simp [deep, deeps]
theorem deep_dSt (m : Stp) : deep (dSt m) ≤ 1 := by unfold dSt; simp [deep, deeps]
theorem deep_dScr (s : Scr) : deep (dScr s) ≤ 3 := by
  have h1 := deeps_map dMk 1 deep_dMk s.begins
  have h2 := deeps_map dSt 1 deep_dSt s.steps
  have h3 := deeps_map dMk 1 deep_dMk s.ends
  unfold dScr
  simp only [deep, deeps]
  omega
theorem eqD_dMk (a b : Mk) : eqD (dMk a) (dMk b) = decide (a = b) := by
  obtain ⟨i, x⟩ := a; obtain ⟨j, y⟩ := b
  unfold dMk
  simp only [eqD, eqDs, Bool.and_true]
  by_cases h1 : i = j <;> by_cases h2 : x = y <;> simp [h1, h2]
theorem eqD_dSt (a b : Stp) : eqD (dSt a) (dSt b) = decide (a = b) := by
  obtain ⟨i, x, z, k⟩ := a; obtain ⟨j, y, u, l⟩ := b
  unfold dSt
  simp only [eqD, eqDs, Bool.and_true]
  by_cases h1 : i = j <;> by_cases h2 : x = y <;> by_cases h3 : z = u <;> by_cases h4 : k = l <;> simp [h1, h2, h3, h4]
theorem any_mem {α : Type} [DecidableEq α] (f : α → D) (h : ∀ a b, eqD (f a) (f b) = decide (a = b)) (x : α) : ∀ xs : List α, ((xs.map f).any fun e => eqD e (f x)) = decide (x ∈ xs)
  | [] => by simp
  | y :: ys => by
    rw [List.map_cons, List.any_cons, any_mem f h x ys, h]
    by_cases c : y = x
    · simp [c]
    · simp [c, show ¬ x = y from fun q => c q.symm]
/-! ### the list's insert; a number of the module -/
section
variable {X : Cx}
def insAt (n : Nat) (i : Int) : Nat := if i < 0 then (i + (n : Int)).toNat else min i.toNat n
def rInsert : V → List V → Hp → VK → Prop := fun x vs H Q => ∃ l xs i y, x = .ref l ∧ vs = [.int i, y] ∧ H l = some (.lst xs) ∧ (-(2 ^ 63) ≤ i ∧ i < 2 ^ 63) ∧ xs.length < sizeLine ∧ Q .non (upd H l (.lst (xs.take (insAt xs.length i) ++ y :: xs.drop (insAt xs.length i))))
theorem mt_insert : MtM X "list.insert" rInsert := by
  intro pins s σ H x vs v us Q I rx rv h
  obtain ⟨l, xs, i, y, rfl, rfl, hH, hi, hz, q⟩ := h
  cases rx
  obtain ⟨u, w', rfl, ⟨t, rfl⟩, ry⟩ := vals2 rv
  obtain ⟨z, its, n, r, hl, e⟩ := I.lstM hH
  have hf : ¬ (!Builtin.List.listFitsIndex i) = true := by
    unfold Builtin.List.listFitsIndex
    simp only [Bool.not_eq_true', Bool.and_eq_false_iff, decide_eq_false_iff_not, not_or, Decidable.not_not]
    exact hi
  refine call_meets F.slot_list_insert ⟨_, e, rfl⟩ F.entry_list_insert (F.args_list_insert_3 _ _ _) (AutoSeq1.list_insert_list_int_val_1 l its.toArray n i t w' hf (by rw [List.size_toArray]; omega)) ⟨e, ?_⟩
  have hil : insAt xs.length i = insAt its.length i := by rw [hl]
  refine ⟨.non, _, I.lset (its' := its.take (insAt its.length i) ++ w' :: its.drop (insAt its.length i)) hH e ?_ ((r.take _).append (.cons ry (r.drop _))) ?_, rfl, by rw [← hil]; exact q⟩
  · rw [List.size_toArray]
    show (its.toArray.extract 0 (insAt its.length i)).push w' ++ its.toArray.extract (insAt its.length i) = _
    apply Array.ext'
    simp [Array.toList_extract, List.take_of_length_le]
  · rw [List.length_append, List.length_cons, List.length_take, List.length_drop]; omega
theorem pe_globI {x : Str} {i : Int} {pos : Pos} (hg : Gl X x) (hm : ∃ t, X.mg x = some (.int i t)) (hd : (x == ("__debug__" : Str)) = false := by decide) : PE X (.Name x pos) (tC (.int i)) := by
  obtain ⟨t, hm⟩ := hm
  exact pe_glob hg hm ⟨t, rfl⟩ hd
end
/-! in a block: the fragment named outright -/
theorem kIx {X : Cx} {K : PySem.W.Frag} (r : PySem.W.Frag → R2) (h : IxR X (r X.K)) (e : X.K = K := by rfl) : IxR X (r K) := e ▸ h
theorem kSl {X : Cx} {K : PySem.W.Frag} (r : PySem.W.Frag → V → Option Int → Option Int → Hp → VK → Prop) (h : SlR X (r X.K)) (e : X.K = K := by rfl) : SlR X (r K) := e ▸ h
theorem kOp {X : Cx} {K : PySem.W.Frag} {f : Value → Value → Sem Value} (r : PySem.W.Frag → R2) (h : OpR X f (r X.K)) (e : X.K = K := by rfl) : OpR X f (r K) := e ▸ h
def rLenS (K : PySem.W.Frag) : List V → Hp → VK → Prop := fun xs H Q => ∃ p ys, xs = [.ref p] ∧ (SqL K H p ys ∨ SqT K H p ys) ∧ Q (.int ys.length) H
theorem kLen {X : Cx} {K : PySem.W.Frag} (e : X.K = K := by rfl) : CallR X (.builtin "len") (rLenS K) := e ▸ call_len_seq
end L3

/-! Exceptions of own classes: raised, passing frames. -/
namespace L3
open PySem PySem.Spec PyProof.Rows L2
theorem ObjOk.there {P : Program} {w : World} {H : Hp} {h : Heap} : ∀ {a : Addr} {o : HO}, ObjOk P w H h a o → ∃ ob, h.get? a = some ob
  | _, .lst _, x => let ⟨_, _, _, _, e⟩ := x; ⟨_, e⟩
  | _, .tup _, x => let ⟨_, _, _, o, e, _⟩ := x; ⟨o, e⟩
  | _, .dK _, x => let ⟨_, _, _, _, o, _, _, e, _⟩ := x; ⟨o, e⟩
  | _, .dT _, x => let ⟨_, _, _, _, o, _, _, e, _⟩ := x; ⟨o, e⟩
  | _, .set _ _, x => let ⟨o, _, _, _, e, _⟩ := x; ⟨o, e⟩
  | _, .ins _ _ _, x => let ⟨_, _, _, e, _⟩ := x; ⟨_, e⟩
  | _, .own _, x => x
  | _, .xd _, x => let ⟨_, ⟨o, _, _, e, _⟩, _⟩ := x; ⟨o, e⟩
  | _, .met _ _, x => ⟨_, x⟩
  | _, .rng _ _, x => let ⟨_, _, _, e⟩ := x; ⟨_, e⟩
  | _, .frz o _, x => ⟨o, x.1⟩
  | _, .tbl _, x => ⟨_, x⟩
  | _, .ext _, x => x.2.1
structure Fly (P : Program) (w : World) (st : List Env) (H : Hp) (s : Shared) (x C : Addr) (H' : Hp) (s' : Shared) (B : Heap) : Prop where
  os : s'.os = s.os
  bare : AllBare s'.gens
  un : Un (frs st) [] H H' s.heap s'.heap
  hok : HOk P w H' s'.heap
  fl : ∃ t, Heap.FlyingW B st x (.ref C) (.ref t) s'.heap
  new : s.heap.get? x = none
  xf : H' x = none
  tr : ∀ b o, H' b ≠ none → s'.heap.get? b = some o → B.get? b = some o
  ol : ∀ b o, s.heap.get? b = some o → H b = none → b ∉ frs st → B.get? b = some o
  th : ∀ b o, s.heap.get? b = some o → b ∉ frs st → ∃ o', B.get? b = some o'
  ff : ∀ b ∈ frs st, H' b = none
def CX1 (P : Program) (w : World) : CXT := fun st H s E e s' => ∃ x C H' B, e = .ref x ∧ Fly P w st H s x C H' s' B ∧ E (.ref C) none H'
section
variable {P : Program} {w : World} {st : List Env} {H H' : Hp} {s s' : Shared} {x C : Addr} {B : Heap}
theorem Fly.turn (F : Fly P w st H s x C H' s' B) {h2 : Heap} (k : B.StaysIn h2) (u : s'.heap.UpToSlots h2) : Un (frs st) [] H H' s.heap h2 ∧ HOk P w H' h2 := by
  have slot : ∀ b ∈ frs st, ∀ o, s'.heap.get? b = some o → ∃ sl, h2.get? b = some { o with slots := sl } := fun b hb o q => by
    obtain ⟨t, fl⟩ := F.fl
    obtain ⟨_, o', e, d⟩ := fl.2.2.1.mem hb
    rw [q] at e; cases e
    exact u b o q d
  refine ⟨⟨fun b o q n hb _ => k b o (F.ol b o q n hb), fun b o q n hb hx => ?_, F.un.free, fun b o q hx => ?_, F.un.tups, F.un.frzs, F.un.tbls⟩, fun a o e => ?_⟩
  · obtain ⟨sl, e⟩ := F.un.slot b o q n hb hx
    obtain ⟨sl', e'⟩ := slot b hb _ e
    exact ⟨sl', e'⟩
  · by_cases hb : b ∈ frs st
    · obtain ⟨o', e⟩ := F.un.there b o q hx
      obtain ⟨sl, e'⟩ := slot b hb _ e
      exact ⟨_, e'⟩
    · obtain ⟨o', e⟩ := F.th b o q hb
      exact ⟨o', k b o' e⟩
  · refine (F.hok a o e).stay (fun b v hb q => ?_) (fun _ q => q) fun _ _ q => q
    refine k b v (F.tr b v ?_ q)
    rcases hb with rfl | hb
    · rw [e]; simp
    · rw [hb]; simp
end
section
variable {X : Cx} {pins : List (Addr × Obj)} {σ : L2.St} {H : Hp} {s : Shared}
theorem raise_fly {M : Model} {h2 : Heap} {x C : Addr} {vs : List Value} {Q : Unit → Shared → Prop} {E : Value → Shared → Prop} (I : Inv X pins σ H s) (hst : X.stack = X.env :: X.outer) (hfm : X.env.frame = some X.env.locals) (hex : X.ex = []) (hx : Heap.MadeExcOf s.heap h2 x (.ref C) vs)
    (q : ∀ h' B, Fly X.prog X.w X.outer X.H₀ X.s₀ x C H { s with heap := h' } B → Q () { s with heap := h' }) : wpAny M X.A (leaving X.env (.ref x)) Q E { s with heap := h2 } := by
  have hfr : X.A.frames = some (X.env :: X.outer) := by rw [← hst]; exact I.ok.frames
  have hstk := I.stack
  have inB : ∀ b o, s.heap.get? b = some o → b ∉ frs X.stack → (PySem.W.hideAll s.heap (frs X.stack)).get? b = some o := fun b o e n => PySem.W.hideAll_get _ e n
  have nst : ∀ b o, X.s₀.heap.get? b = some o → b ∉ X.fs → b ∉ frs X.stack := fun b o e n hb => by
    rcases List.mem_cons.mp (I.stkSub b hb) with z | z
    · exact absurd (Nat.lt_of_lt_of_le (Heap.lt_size e) I.ok.above) (by rw [z]; exact Nat.lt_irrefl _)
    · exact n z
  have noex : ∀ b : Addr, b ∉ X.ex := fun b => by rw [hex]; simp
  have fsub : ∀ b ∈ X.fs, b ∈ frs X.stack := fun b hb => by
    rw [hst]; unfold frs; rw [List.filterMap_cons, hfm]; exact List.mem_cons_of_mem _ hb
  have hff := PySem.W.funFrames_hide (as := frs X.stack) hstk (fun env he a ha => List.mem_filterMap.mpr ⟨env, he, ha⟩)
  rw [hst] at hff
  refine wpAny_leaves_madeW (base := PySem.W.hideAll s.heap (frs (X.env :: X.outer))) (h := s.heap) (s := { s with heap := h2 }) (L := X.env.locals) hfr hfm (fun b o e => PySem.W.of_hideAll _ e) hff hx fun h' t f1 f2 f3 f4 => ?_
  rw [← hst] at f1 f3
  have keepB : ∀ b o, s.heap.get? b = some o → b ∉ frs X.stack → h'.get? b = some o := fun b o e n => f1.1 b o (inB b o e n)
  have slot : ∀ b ∈ frs X.stack, ∀ o, s.heap.get? b = some o → ∃ sl, h'.get? b = some { o with slots := sl } := fun b hb o e => by
    obtain ⟨_, o', e', d⟩ := hstk.mem hb
    rw [e] at e'; cases e'
    exact f4 b o (hx.keeps b o e) d
  have xnew : X.s₀.heap.get? x = none := by
    cases e : X.s₀.heap.get? x with
    | none => rfl
    | some o =>
      obtain ⟨o', e'⟩ := I.base.there x o e (noex x)
      rw [hx.new] at e'; cases e'
  refine q h' _ ⟨I.os, I.bare, ⟨fun b o e n hb _ => ?_, fun b o e n hb _ => ?_, fun b o e n _ => I.base.free b o e n (noex b), fun b o e _ => ?_, I.base.tups, I.base.frzs, I.base.tbls⟩, fun a u e => ?_, ⟨t, f1⟩, xnew, ?_, fun b o hb e => ?_, fun b o e n hb => ?_, fun b o e hb => ?_, fun b hb => ?_⟩
  · exact keepB b o (I.base.keep b o e n hb (noex b)) (nst b o e hb)
  · obtain ⟨sl, e1⟩ := I.base.slot b o e n hb (noex b)
    obtain ⟨sl', e2⟩ := slot b (fsub b hb) _ e1
    exact ⟨sl', e2⟩
  · obtain ⟨o', e1⟩ := I.base.there b o e (noex b)
    by_cases hb : b ∈ frs X.stack
    · obtain ⟨sl, e2⟩ := slot b hb _ e1
      exact ⟨_, e2⟩
    · exact ⟨o', keepB b o' e1 hb⟩
  · refine (I.hok a u e).stay (fun b v hb q => keepB b v q fun z => ?_) (fun _ q => q) fun _ _ q => q
    have := I.stkFree b z
    rcases hb with rfl | hb
    · rw [e] at this; cases this
    · rw [hb] at this; cases this
  · cases e : H x with
    | none => rfl
    | some u =>
      obtain ⟨o, e'⟩ := ObjOk.there (I.hok x u e)
      rw [hx.new] at e'; cases e'
  · cases e' : H b with
    | none => exact absurd e' hb
    | some u =>
      obtain ⟨o1, e1⟩ := ObjOk.there (I.hok b u e')
      have nb : b ∉ frs X.stack := fun z => by have := I.stkFree b z; rw [e'] at this; cases this
      have e2 := keepB b o1 e1 nb
      have e3 : h'.get? b = some o := e
      rw [e3] at e2; cases e2
      exact inB b o e1 nb
  · exact inB b o (I.base.keep b o e n hb (noex b)) (nst b o e hb)
  · obtain ⟨o', e1⟩ := I.base.there b o e (noex b)
    exact ⟨o', inB b o' e1 (nst b o e hb)⟩
  · exact I.stkFree b (fsub b hb)
theorem pass_fly {M : Model} {s2 : Shared} {H2 : Hp} {x C : Addr} {B : Heap} {Q : Unit → Shared → Prop} {E : Value → Shared → Prop} (I : Inv X pins σ H s) (hst : X.stack = X.env :: X.outer) (hfm : X.env.frame = some X.env.locals) (hex : X.ex = []) (F : Fly X.prog X.w X.stack H s x C H2 s2 B)
    (q : ∀ h', Fly X.prog X.w X.outer X.H₀ X.s₀ x C H2 { s2 with heap := h' } B → Q () { s2 with heap := h' }) : wpAny M X.A (leaving X.env (.ref x)) Q E s2 := by
  have hfr : X.A.frames = some (X.env :: X.outer) := by rw [← hst]; exact I.ok.frames
  obtain ⟨t, fl⟩ := F.fl
  have nst : ∀ b o, X.s₀.heap.get? b = some o → b ∉ X.fs → b ∉ frs X.stack := fun b o e n hb => by
    rcases List.mem_cons.mp (I.stkSub b hb) with z | z
    · exact absurd (Nat.lt_of_lt_of_le (Heap.lt_size e) I.ok.above) (by rw [z]; exact Nat.lt_irrefl _)
    · exact n z
  have noex : ∀ b : Addr, b ∉ X.ex := fun b => by rw [hex]; simp
  have fsub : ∀ b ∈ X.fs, b ∈ frs X.stack := fun b hb => by
    rw [hst]; unfold frs; rw [List.filterMap_cons, hfm]; exact List.mem_cons_of_mem _ hb
  have fl' := fl
  rw [hst] at fl'
  refine wpAny_leaves_onW hfr hfm fl' fun h' f1 f2 => ?_
  obtain ⟨un, hok⟩ := F.turn f1.1 f2
  have xnew : X.s₀.heap.get? x = none := by
    cases e : X.s₀.heap.get? x with
    | none => rfl
    | some o =>
      obtain ⟨o', e'⟩ := I.base.there x o e (noex x)
      rw [F.new] at e'; cases e'
  refine q h' ⟨?_, F.bare, ⟨fun b o e n hb _ => ?_, fun b o e n hb _ => ?_, fun b o e n _ => ?_, fun b o e _ => ?_, fun b xs e => un.tups b xs (I.base.tups b xs e), fun b o u e => un.frzs b o u (I.base.frzs b o u e), fun b ps e => ?_⟩, hok, ⟨t, f1⟩, xnew, F.xf, fun b o hb e => ?_, fun b o e n hb => ?_, fun b o e hb => ?_, fun b hb => F.ff b (fsub b hb)⟩
  · exact F.os.trans I.os
  · exact un.keep b o (I.base.keep b o e n hb (noex b)) (I.base.free b o e n (noex b)) (nst b o e hb) (by simp)
  · obtain ⟨sl, e1⟩ := I.base.slot b o e n hb (noex b)
    obtain ⟨sl', e2⟩ := un.slot b _ e1 (I.base.free b o e n (noex b)) (fsub b hb) (by simp)
    exact ⟨sl', e2⟩
  · obtain ⟨o', e1⟩ := I.base.there b o e (noex b)
    exact un.free b o' e1 (I.base.free b o e n (noex b)) (by simp)
  · obtain ⟨o', e1⟩ := I.base.there b o e (noex b)
    exact un.there b o' e1 (by simp)
  · obtain ⟨m1, e1⟩ := I.base.tbls b ps e
    obtain ⟨m2, e2⟩ := un.tbls b _ e1
    exact ⟨m1 ++ m2, by rw [e2, Array.append_assoc]⟩
  · cases e' : H2 b with
    | none => exact absurd e' hb
    | some u =>
      obtain ⟨o1, e1⟩ := ObjOk.there (F.hok b u e')
      have e2 := F.tr b o1 hb e1
      have e3 := f1.1 b o1 e2
      have e4 : h'.get? b = some o := e
      rw [e4] at e3; cases e3
      exact e2
  · exact F.ol b o (I.base.keep b o e n hb (noex b)) (I.base.free b o e n (noex b)) (nst b o e hb)
  · obtain ⟨o', e1⟩ := I.base.there b o e (noex b)
    exact F.th b o' e1 (nst b o e hb)
end
end L3

/-! An exception object of an own class: its class, isinstance; a clause that takes it. -/
namespace L3
open PySem PySem.Spec PyProof.Rows L2 PySem.W PySem.Builtin PySem.Builtin.ObjectAttr PySem.Builtin.Getset_descriptor PySem.Calls
def XAt (x C : Addr) : Heap → Prop := fun h => ∃ o, h.get? x = some o ∧ o.cls = .ref C
structure XCls (K : Frag) (C : Addr) : Prop where
  ga : findIn K (.ref C) "__getattribute__" = some (some (.builtin "BaseException.__getattribute__"))
  gh : findIn K (.ref C) "__getattr__" = some none
  bs : mroIn K C (.type "BaseException") = some true
  cl : (clsIn K C).isSome = true
  ha : findIn K (.ref C) "__class__" = some (some (.builtin "object.__class__"))
  hn : specialIn K (.builtin "object.__class__") "__get__" = some (some (.builtin "getset_descriptor.__get__"))
  htk : takesIn K (.builtin "object.__class__") = some true
  hm : mroIn K C (.type "object") = some true
section
variable {prog : Program} {w : World} {A : Around} {E : Value → Shared → Prop} {s : Shared} {K : Frag} {x C : Addr}
theorem x_type {M : Model} {h : Heap} (I : XAt x C h) : Looks M h (typeOf (.ref x)) (.ref C) := by
  obtain ⟨o, e, c⟩ := I
  exact c ▸ (Looks.ld e).andThen .now
theorem x_find {M : Model} {h : Heap} (X : K.In h) (c : XCls K C) : Looks M h (find (.ref x) (.ref C) "__class__") (.bind (.builtin "getset_descriptor.__get__") (.builtin "object.__class__")) := by
  have l1 := looks_findIn (M := M) X c.ha
  have l2 : Looks M h (getOf (some (.builtin "object.__class__"))) (some (.builtin "getset_descriptor.__get__")) := looks_specialIn X c.hn
  have l3 := looks_takesIn (M := M) X c.htk
  refine l1.andThen (l2.andThen ?_)
  exact (show Looks M h (dataDescriptor? (some (.builtin "object.__class__")) (some (.builtin "getset_descriptor.__get__"))) (some (.builtin "getset_descriptor.__get__", .builtin "object.__class__")) from l3.andThen .now).andThen (Looks.tag .now)
theorem x_get {R : Result → Shared → Prop} {tp : Value} (X : K.In s.heap) (I : XAt x C s.heap) (hm : mroIn K C (.type "object") = some true) (h : R (.ok (.ret (.ref C))) s) :
    codeAny (model prog w) A (.call (.builtin "getset_descriptor.__get__") ⟨[.builtin "object.__class__", .ref x, tp], []⟩) R s := by
  obtain ⟨h0, g0, d0, t0, os0⟩ := s
  have l0 := x_type (M := model prog w) I
  have l1 := looks_mroIn (M := model prog w) X hm
  refine codeAny_call_builtin KF.slot_gs.plain KF.entry_gs (KF.slot_gs.check _ _ _ _ _ _ _ _ KF.type_class (KF.args_gs _ _ _) ?_)
  unfold Builtin.«getset_descriptor.__get__» descrGet
  rw [dga_obj]
  refine wpAny_bind (wpAny_pure ?_)
  unfold descrGetter descrCheckInstance descrNameAndClass isInstance
  simp only [KF.owner_class]
  repeat lk
  refine ⟨Code.quiet_builtin _ (by decide +kernel), codeAny_builtin KF.entry_class ?_⟩
  unfold Builtin.«object.__class__» shownTypeOf
  repeat lk
  exact h
theorem bx_bind (v : Value) : bindSpecial (.builtin "BaseException.__getattribute__") v = pure (.builtin "BaseException.__getattribute__", [v]) := by kernel_rfl
theorem x_entry {tk : Tok} {R : Result → Shared → Prop} (X : K.In s.heap) (I : XAt x C s.heap) (c : XCls K C) (h : R (.ok (.ret (.ref C))) s) :
    codeAny (model prog w) A (.call (.builtin "BaseException.__getattribute__") ⟨[.ref x, .str "__class__" tk], []⟩) R s := by
  obtain ⟨h0, g0, d0, t0, os0⟩ := s
  have l0 := x_type (M := model prog w) I
  have l1 := x_find (M := model prog w) (x := x) X c
  have l2 := looks_mroIn (M := model prog w) X c.bs
  have hk : builtinKind "BaseException.__getattribute__" = some .slot := by decide +kernel
  have hsp : splitId "BaseException.__getattribute__" = some ("BaseException", "__getattribute__") := by decide +kernel
  have ha := F.args_bexc_ga (.ref x) (.str "__class__" tk)
  refine codeAny_call_builtin (by decide +kernel) F.entry_bexc_ga ?_
  simp only [checkBuiltinCall, hk, hsp]
  unfold isInstance
  repeat (first | refine wpAny_run (h := none) (x_get (A := A.in1) (s := ⟨h0, g0, d0, t0, os0⟩) X I c.hm ?_) | lk)
  exact h
theorem x_class {Q : Option Value → Shared → Prop} (X : K.In s.heap) (I : XAt x C s.heap) (c : XCls K C) (h : Q (some (.ref C)) { s with toks := s.toks + 1 }) : wpAny (model prog w) A (getAttr? (.ref x) "__class__") Q E s := by
  obtain ⟨h0, g0, d0, t0, os0⟩ := s
  have l0 := x_type (M := model prog w) I
  have l1 := looks_findIn (M := model prog w) X c.ga
  have l2 := looks_findIn (M := model prog w) X c.gh
  unfold getAttr? getAttrBy? getAttrBy
  refine wpAny_bind (wpAny_mkText (wpAny_bind (wpAny_attempt (wpAny_holding (wpAny_bind (l0.at (wpAny_bind (l1.at ?_))))))))
  show wpAny _ _ (getAttrByItsOwn _ _ _ _ _ _) _ _ _
  unfold getAttrByItsOwn hookBefore
  refine wpAny_bind (l2.at ?_)
  show wpAny _ _ (((holding [] (boundAndCalled _ _ _)).attempt) >>= _) _ _ _
  unfold boundAndCalled
  rw [bx_bind]
  refine wpAny_bind (wpAny_attempt (wpAny_holding (wpAny_bind (wpAny_pure ?_))))
  exact wpAny_call (x_entry (s := ⟨h0, g0, d0, t0 + 1, os0⟩) X I c (wpAny_pure (wpAny_pure h)))
theorem kitx_exc (c : XCls K C) : KitX K (.ref x) (.ref C) (XAt x C) where
  ty := fun _ _ _ I => x_type I
  it := fun _ _ X _ => by
    obtain ⟨cd, hc⟩ := Option.isSome_iff_exists.mp c.cl
    unfold clsIn at hc
    split at hc
    · rename_i ho
      intro A' Q' E' s' k q
      unfold isType loadHead
      exact wpAny_bind (wpAny_loadPart (k _ _ (X _ _ ho)) (wpAny_pure q))
    · cases hc
  ne := fun h tp dd its n sl X htp => by
    obtain ⟨cd, hc⟩ := Option.isSome_iff_exists.mp c.cl
    refine Bool.eq_false_iff.mpr fun q => ?_
    obtain rfl : C = tp := Value.ref.inj (beq_iff_eq.mp q)
    unfold clsIn at hc
    split at hc
    · rename_i ho
      cases (X _ _ ho).symm.trans htp
    · cases hc
  ca := fun X I k => x_class X I c k
theorem x_matches {S : Addr} {Q : Bool → Shared → Prop} (X : K.In s.heap) (I : XAt x C s.heap) (ht : typeIn K (.ref S) = some (.type "type")) (hcS : (clsIn K S).isSome = true) (hb : mroIn K S (.type "BaseException") = some true) (hs : mroIn K C (.ref S) = some true) (q : Q true s) :
    wpAny (model prog w) A (excMatches (.ref x) (.ref S)) Q E s := by
  obtain ⟨h0, g0, d0, t0, os0⟩ := s
  have l0 := x_type (M := model prog w) I
  have l1 := looks_typeIn (M := model prog w) X ht
  have l2 := looks_mroIn (M := model prog w) X hb
  have l3 := looks_mroIn (M := model prog w) X hs
  have l4 : Looks (model prog w) h0 (isType (.ref S)) true := by
    obtain ⟨cd, hc⟩ := Option.isSome_iff_exists.mp hcS
    unfold clsIn at hc
    split at hc
    · rename_i ho
      intro A' Q' E' s' k q
      unfold isType loadHead
      exact wpAny_bind (wpAny_loadPart (k _ _ (X _ _ ho)) (wpAny_pure q))
    · cases hc
  have l5 : Looks (model prog w) h0 (isSubtype (.type "type") (.type "tuple")) false := Looks.of_pure (by rw [isSubtype_type]; kernel_rfl)
  unfold excMatches isInstance isExcClass
  repeat lk
  exact q
end
end L3

/-! raise C(..), calls that may raise, try with one call, isinstance of what was caught. -/
namespace L3
open PySem PySem.Spec PyProof.Rows L2
abbrev bmV : List Value := [.type "ValueError", .type "Exception", .type "BaseException", .type "object"]
theorem own_obj {K : PySem.W.Frag} {h : Heap} {C : Addr} {bB : List Value} {nid : String} (X : K.In h) (e : PySem.W.excIn K C bB nid = true) :
    ∃ bm N nm q bs hd sn sub ab col dd k0 k1 k2 k3 k5 mN, h.get? C = some (excClassObj nm q C N bs bm hd sn sub ab col dd k0 k1 k2 k3 k5 nid) ∧ h.Ns N mN ∧ mN "__init__" = none ∧ OwnTail h bB bm := by
  unfold PySem.W.excIn at e
  split at e
  · rename_i dd cd slots hl
    split at e
    · rename_i C1 bm k0 k1 k2 k3 n1 k5 hmro hslots
      simp only [Bool.and_eq_true, beq_iff_eq, Bool.not_eq_true'] at e
      obtain ⟨⟨⟨⟨⟨e1, e2⟩, e3⟩, e4⟩, e5⟩, e6⟩ := e
      subst e1 e2
      obtain ⟨a1, a2, a3, a4, a5, a6, a7, a8, a9, a10, a11⟩ := cd
      dsimp only at hmro e3 e5 e6
      subst hmro e3
      have es : slots = #[k0, k1, k2, k3, some (.builtin n1), k5] := by
        obtain ⟨l⟩ := slots
        simp only at hslots
        rw [hslots]
      subst es
      exact ⟨bm, a4, a1, a5, a2, a6, a7, a8, a9, a10, dd, k0, k1, k2, k3, k5, _, X _ _ hl, .of_isNs (PySem.W.isNs_of_in X e5), PySem.W.nsMap_none_of_in X e5 e6, PySem.W.tail_of_in X e4⟩
    · cases e
  · cases e
structure OwnX (K : PySem.W.Frag) (mg : Str → Option Value) (x : Str) (C : Addr) : Prop where
  nm : mg x = some (.ref C)
  ex : PySem.W.excIn K C bmV "ValueError.__new__" = true
section
variable {X : Cx}
def Raises (X : Cx) (E : XK) : Prop := ∀ (pins : List (Addr × Obj)) (σ : L2.St) (H : Hp) (s : Shared) (h2 : Heap) (x C : Addr) (vs : List Value), Inv X pins σ H s → Heap.MadeExcOf s.heap h2 x (.ref C) vs → E (.ref C) none H → X.xe (.ref x) { s with heap := h2 }
def tRaise (C : Addr) (E : XK) (te : TE) : TS := fun _ σ H => te σ H fun v H1 => [v].length = 1 ∧ E (.ref C) none H1
theorem ps_raise {x : Str} {C : Addr} {E : XK} {e : Expr} {te : TE} {np cpos pos : Pos} (O : OwnX X.K X.mg x C) (hc : X.calm = true) (hg : Gl X x) (hR : Raises X E) (he : PE X e te) (hd : (x == ("__debug__" : Str)) = false := by decide)
    (hs : starEach [e] X.env = [(false, eval e X.env)] := by rfl) (hpl : (backTo cpos (starEach [e] X.env)).any (·.1) = false := by rfl) : PS X (.Raise (some (.Call (.Name x np) [e] [] cpos)) none pos) (tRaise C E te) := by
  intro pins s σ H D I h
  obtain ⟨bm, N, nm, q, bs, hdct, sn, sub, ab, col, dd, k0, k1, k2, k3, k5, mN, hC, hN, hni, T⟩ := own_obj (h := X.base) I.ok.mod.kin O.ex
  have FV := PySem.F.excBase_ValueError
  refine wpAny_Raise_call_subU (C := C) (nm := nm) (q := q) (N := N) (bs := bs) (bm := bm) (hdct := hdct) (sn := sn) (sub := sub) (ab := ab) (col := col) (dd := dd) (k0 := k0) (k1 := k1) (k2 := k2) (k3 := k3) (k5 := k5) (mN := mN)
    FV (by decide) FV (T.hasType FV.hasBase) (I.ok.hd hc) hpl hni (ld_glob I hg O.nm ⟨rfl, ?_⟩ hd)
  have pa : PA X [e] (tCons te tNil) := pa_cons he pa_nil hs
  rw [hs]
  refine Calls.evalArgs_plain ?_
  have run := pa cpos pins s σ H (fun ws H1 => ws.length = 1 ∧ E (.ref C) none H1) I h
  rw [hs] at run
  refine wpAny_mono run (fun vs s2 ⟨ws, H2, I2, rv, hw, hE⟩ => ?_) fun _ _ y => y
  have hl : vs.length ≤ sizeLine := by
    rw [← rv.length, hw]; decide
  exact ⟨rfl, hl, I2.bk _ _ hC, hN.keeps I2.bk, T.keeps I2.bk, fun h' x0 hm => hR pins σ H2 s2 h' x0 C vs I2 hm hE⟩
/-! ### an own def that may raise -/
def Cal1 (P : Program) (w : World) (K : PySem.W.Frag) (mg : Str → Option Value) (base : Heap) (x : Str) (ps : List Str) (k : Nat) (sp : Sp) : Prop :=
  ∃ f fd, FnOk P w K mg base (CX1 P w) k f fd ps sp ∧ Binds K fd ps [] ∧ PySem.W.keepIn K (.ref f) = true ∧ mg x = some (.ref f)
def tFn1 (sp : Sp) (E : XK) (t : TA) : TE := fun σ H Q => t σ H fun vs H1 => sp vs H1 Q E
theorem pe_fn1 {x : Str} {ps : List Str} {k k' : Nat} {sp : Sp} {E : XK} {p pos : Pos} {e : Expr} {es : List Expr} {t : TA} (C : Cal1 X.prog X.w X.K X.mg X.base x ps k sp) (hr : Room k' X.A) (hk : k ≤ k') (hg : Gl X x) (hx : Passes (CX1 X.prog X.w) X E)
    (ha : PA X (e :: es) t) (hdb : (x == ("__debug__" : Str)) = false := by decide) (he : starEach (e :: es) X.env = (false, eval e X.env) :: starEach es X.env := by rfl) (hpl : (backTo pos (starEach es X.env)).any (·.1) = false := by rfl) :
    PE X (.Call (.Name x p) (e :: es) [] pos) (tFn1 sp E t) := by
  obtain ⟨f, fd, F, b, kp, hm⟩ := C
  intro pins s σ H Q I h
  refine wpAny_Call_Name_kw (ld_glob I hg hm ?_ hdb)
  refine PySem.W.callWith_K (h₀ := X.base) I.ok.mod.kin kp (thn (ha pos pins s σ H _ I h) fun us s1 ⟨vs, H1, I1, r, q⟩ => ⟨I1.kIn, ?_⟩) he hpl
  exact run_fn (dvs := []) F (hr.mono hk) b .nil hx I1 r (by rw [List.append_nil]; exact q)
end
section
variable {P : Program} {w : World} {K : PySem.W.Frag} {mg : Str → Option Value} {base : Heap} {N : List Str} {qual : Str} {scope : Scope} {f : Addr} {cd : Value} {A : Around} {outer : List Env} {s : Shared} {H : Hp} {E : XK}
theorem pass_on : Passes (CX1 P w) (cxOf (CX1 P w) P w K mg base N qual scope f cd A outer s H E) E := by
  intro pins σ H1 s1 e s2 I h
  obtain ⟨x, C, H2, B, rfl, F, hE⟩ := h
  show wpAny (model P w) _ (leaving _ (.ref x)) _ _ s2
  exact pass_fly I rfl rfl rfl F fun h' F' => ⟨x, C, H2, B, rfl, F', hE⟩
theorem raise_on : Raises (cxOf (CX1 P w) P w K mg base N qual scope f cd A outer s H E) E := by
  intro pins σ H1 s1 h2 x C vs I hm hE
  show wpAny (model P w) _ (leaving _ (.ref x)) _ _ _
  exact raise_fly I rfl rfl rfl hm fun h' B F' => ⟨x, C, H1, B, rfl, F', hE⟩
theorem Fun.ok1 {x : Str} {st : Stmt} {fd : FuncData} {ps : List Str} {k : Nat} {sp : Sp} (F : Fun K x qual st f fd) (S : FnScope N ps (defScope st)) (len : ∀ vs H Q E, sp vs H Q E → vs.length = ps.length)
    (hbody : ∀ (cdv : Value) (A : Around) (outer : List Env) (s : Shared) (H : Hp) (vs : List V) (Q : VK) (E : XK), Room k (A.deeper (envOfC qual (defScope st) s.heap.objs.size f cdv)) → sp vs H Q E →
      ∃ t, PSs (cxOf (CX1 P w) P w K mg base N qual (defScope st) f cdv A outer s H E) (defBody st) t ∧ t { nx := fun _ H' => Q .non H', rt := Q } (start N vs) H) : FnOk P w K mg base (CX1 P w) (k + 1) f fd ps sp := by
  obtain ⟨oc, od, kV, doc, pm, an, cdv, ct, osl, rfl, lk, hcd⟩ := F.ex
  exact fn_of lk hcd S len fun A outer s H vs Q E hr hsp => hbody cdv A outer s H vs Q E hr hsp
theorem own_on : PassesOwn (model P w) (cxOf (CX1 P w) P w K mg base N qual scope f cd A outer s H E).A (cxOf (CX1 P w) P w K mg base N qual scope f cd A outer s H E).env (cxOf (CX1 P w) P w K mg base N qual scope f cd A outer s H E).xe := PassesOwn.leaving
end
/-! ### what was caught -/
def excIs (x C : Addr) : Heap → Prop := XAt x C
abbrev Exc (x C : Addr) : HO := .ext (excIs x C)
theorem exc_ok {P : Program} {w : World} {H : Hp} {h : Heap} {x C : Addr} (e : XAt x C h) : ObjOk P w H h x (Exc x C) :=
  ⟨e, let ⟨o, z, _⟩ := e; ⟨o, z⟩, fun h1 h2 ⟨o, z, c⟩ k => ⟨o, k o z, c⟩⟩
section
variable {X : Cx}
def clsV : V → Option Value
  | .ref a => some (.ref a)
  | .ty T => some (.type T)
  | _ => none
theorem call_isinstX : CallR X (.builtin "isinstance") (fun xs H Q => ∃ x C y u b, xs = [.ref x, y] ∧ H x = some (Exc x C) ∧ XCls X.K C ∧ clsV y = some u ∧ PySem.W.kitOne X.K (.ref C) u = some b ∧ Q (.bl b) H) := by
  intro pins s σ H xs us Q I r h
  obtain ⟨x, C, y, u, b, rfl, hx, c, hu, e, q⟩ := h
  obtain ⟨v, w', rfl, rx, ry⟩ := vals2 r
  cases rx
  have ew : w' = u := by
    cases y <;> simp only [clsV] at hu <;> first | cases hu | skip
    · cases ry; rfl
    · cases ry; rfl
  subst ew
  have px : XAt x C s.heap := (show ObjOk X.prog X.w H s.heap x (Exc x C) from I.hok x _ hx).1
  exact PySem.W.kia_one (kitx_exc c) I.kIn px e (fun z => nomatch z) fun tk => ⟨.bl b, H, I.tok _, rfl, q⟩
theorem pe_globC {x : Str} {C : Addr} {pos : Pos} (hg : Gl X x) (hm : X.mg x = some (.ref C)) (hd : (x == ("__debug__" : Str)) = false := by decide) : PE X (.Name x pos) (tC (.ref C)) := pe_glob hg hm rfl hd
end
end L3

/-! try: y = f(..) / except S as n: z = n -/
namespace L3
open PySem PySem.Spec PyProof.Rows L2
abbrev sui (X : Cx) (v : Value) : Cx := { X with A := X.A.mark (some v), calm := false, xe := fun _ _ => False }
section
variable {X : Cx} {pins : List (Addr × Obj)} {σ : L2.St} {H : Hp} {s : Shared}
theorem Inv.suite (I : Inv X pins σ H s) (v : Value) : Inv (sui X v) pins σ H s :=
  ⟨⟨I.ok.mod, I.ok.kind, I.ok.glob, I.ok.blt, I.ok.above, I.ok.inj, I.ok.has, I.ok.cab, (fun h => nomatch h), I.ok.frames, I.ok.stk, I.ok.exf, I.ok.bs, I.ok.bsz, I.ok.noex, I.ok.exfs, I.ok.funs, I.ok.frf⟩, I.os, I.bare, I.base, I.loc, I.cell, I.free, I.freeC, I.pin, I.hok, I.len⟩
theorem Inv.unsuite {v : Value} (ok : X.Ok) (I : Inv (sui X v) pins σ H s) : Inv X pins σ H s :=
  ⟨ok, I.os, I.bare, I.base, I.loc, I.cell, I.free, I.freeC, I.pin, I.hok, I.len⟩
theorem Inv.trackX {x C : Addr} (I : Inv X pins σ H s) (hx : H x = none) (c : XAt x C s.heap) (h0 : X.s₀.heap.get? x = none) (h1 : x ≠ X.env.locals) (h2 : ∀ y a, X.env.cells.lookup y = some a → a ≠ x) (h3 : ∀ p ∈ X.pn ++ pins, p.1 ≠ x) : Inv X pins σ (upd H x (Exc x C)) s := by
  have old : ∀ b u, H b = some u → upd H x (Exc x C) b = some u := fun b u e => by rw [upd_ne (ne_of_none e hx)]; exact e
  refine ⟨I.ok, I.os, I.bare, ⟨I.base.keep, I.base.slot, fun b o e n hb => ?_, I.base.there, fun b xs e => old b _ (I.base.tups b xs e), fun b o u e => old b _ (I.base.frzs b o u e), fun b ps e => ?_⟩, I.loc, I.cell, by rw [upd_ne h1.symm]; exact I.free, fun y a e => by rw [upd_ne (h2 y a e)]; exact I.freeC y a e, fun p hp => ?_, fun b u e => ?_, I.len⟩
  · rw [upd_ne (fun z => by subst z; rw [h0] at e; cases e)]
    exact I.base.free b o e n hb
  · obtain ⟨m, e1⟩ := I.base.tbls b ps e
    exact ⟨m, old b _ e1⟩
  · obtain ⟨a1, a2, a3⟩ := I.pin p hp
    exact ⟨a1, by rw [upd_ne (h3 p hp)]; exact a2, a3⟩
  · by_cases hb : b = x
    · subst hb
      rw [upd_same] at e; cases e
      exact exc_ok c
    · rw [upd_ne hb] at e
      exact (I.hok b u e).stay (fun _ _ _ q => q) (fun a q => old a _ q) fun a xs q => old a _ q
theorem goes_ok {M : Model} {A : Around} {E : Value → Shared → Prop} {i : Nat} {n : Str} {pos : Pos} {Q : Unit → Shared → Prop} (I : Inv X pins σ H s) (hN : X.N.Nodup) (hi : X.N[i]? = some n) (hk : X.env.scope.names.lookup n = some .local)
    (h : ∀ s', Inv X pins (σ.set i none) H s' → Q () s') : wpAny M A (do bindName X.env n .none; unbindBehindTheSuite X.env n pos) Q E s := by
  obtain ⟨m, hn, hl⟩ := id I.loc
  have hcls : (X.env.scope.kind == .class || (X.env.scope.kind == .module && X.env.locals != X.env.globals)) = false := by rw [I.ok.kind]; rfl
  have hiσ : i < σ.length := by rw [I.len]; exact (List.getElem?_eq_some_iff.mp hi).1
  have cne := I.cne
  obtain ⟨oL, _, _, hoL, _⟩ := id hn
  refine wpAny_nameGoes_keeps hk hn hcls fun h' v hn' hs => h _ ?_
  have bel : ∀ {b : Addr} {o : Obj}, X.s₀.heap.get? b = some o → b ≠ X.env.locals := fun e => Nat.ne_of_lt (Nat.lt_of_lt_of_le (Heap.lt_size e) I.ok.above)
  refine ⟨I.ok, I.os, I.bare, ⟨fun b o e n hb hx => (hs.2 b (bel e)).trans (I.base.keep b o e n hb hx), fun b o e n hb hx => ?_, I.base.free, fun b o e hx => ?_, I.base.tups, I.base.frzs, I.base.tbls⟩, ⟨_, hn', fun j y v' e1 e2 e3 => ?_⟩, fun y c e => ?_, I.free, I.freeC, fun p hp => ?_, fun b ob e => ?_, by simpa using I.len⟩
  · obtain ⟨sl, e1⟩ := I.base.slot b o e n hb hx
    exact ⟨sl, (hs.2 b (bel e)).trans e1⟩
  · obtain ⟨o', e1⟩ := I.base.there b o e hx
    exact ⟨o', (hs.2 b (bel e)).trans e1⟩
  · by_cases hj : j = i
    · subst hj
      rw [List.getElem?_set_self hiσ] at e2
      cases e2
    · rw [List.getElem?_set_ne (Ne.symm hj)] at e2
      obtain ⟨u', r', q⟩ := hl j y v' e1 e2 e3
      refine ⟨u', r', ?_⟩
      rcases q with ⟨k, e⟩ | ⟨k, c, e, z⟩
      · refine .inl ⟨k, ?_⟩
        have : y ≠ n := fun e => hj (nodup_ix hN e1 (e ▸ hi))
        simp [this, e]
      · exact .inr ⟨k, c, e, z.sameBut hs (cne y c e)⟩
  · obtain ⟨w', z⟩ := I.cell y c e
    exact ⟨w', z.sameBut hs (cne y c e)⟩
  · obtain ⟨e, n, ne, nf, d⟩ := I.pin p hp
    exact ⟨(hs.2 p.1 ne).trans e, n, ne, nf, d⟩
  · refine (I.hok b ob e).stay (fun c w' hc q => (hs.2 c ?_).trans q) (fun _ q => q) fun _ _ q => q
    rintro rfl
    rcases hc with rfl | hc
    · rw [I.free] at e; cases e
    · rw [I.free] at hc; cases hc
structure Clause (K : PySem.W.Frag) (mg : Str → Option Value) (x : Str) (S : Addr) : Prop where
  nm : mg x = some (.ref S)
  ty : PySem.W.typeIn K (.ref S) = some (.type "type")
  cl : (PySem.W.clsIn K S).isSome = true
  bs : PySem.W.mroIn K S (.type "BaseException") = some true
def tTry (K : PySem.W.Frag) (S : Addr) (iy iz ie : Nat) (sp : Sp) (t : TA) : TS := fun D σ H => t σ H fun vs H1 => sp vs H1 (fun v H2 => D.nx (σ.set iy (some v)) H2)
  fun c _ H2 => ∃ C, c = .ref C ∧ PySem.W.mroIn K C (.ref S) = some true ∧ ∀ x, H2 x = none → D.nx (((σ.set ie (some (.ref x))).set iz (some (.ref x))).set ie none) (upd H2 x (Exc x C))
theorem ps_try1 {x y z n S : Str} {SA : Addr} {iy iz ie : Nat} {ps : List Str} {k k' : Nat} {sp : Sp} {fp yp cp ap spp np zp zap hp pos : Pos} {e : Expr} {es : List Expr} {t : TA} (hxe : X.xe = fun _ _ => False) (C : Cal1 X.prog X.w X.K X.mg X.base x ps k sp) (hr : Room k' X.A) (hk : k ≤ k') (hg : Gl X x)
    (ha : PA X (e :: es) t) (cl : Clause X.K X.mg S SA) (hgS : Gl X S) (hst : X.stack = X.env :: X.outer) (hfm : X.env.frame = some X.env.locals) (hex : X.ex = []) (hN : X.N.Nodup) (hy : X.N[iy]? = some y) (hz : X.N[iz]? = some z) (hn : X.N[ie]? = some n)
    (ly : Loc X.env.scope y) (lz : Loc X.env.scope z) (ln : X.env.scope.names.lookup n = some .local) (hie : ie ≠ iz)
    (fy : X.fn y = true ∨ X.env.scope.names.lookup y = some .local := by first | exact .inl rfl | exact .inr rfl | assumption) (fz : X.fn z = true ∨ X.env.scope.names.lookup z = some .local := by first | exact .inl rfl | exact .inr rfl | assumption)
    (hdb : (x == ("__debug__" : Str)) = false := by decide) (hdS : (S == ("__debug__" : Str)) = false := by decide) (hdn : (n == ("__debug__" : Str)) = false := by decide) (hcn : (n == ("__classdict__" : Str)) = false := by decide)
    (he : starEach (e :: es) X.env = (false, eval e X.env) :: starEach es X.env := by rfl) (hpl : (backTo cp (starEach es X.env)).any (·.1) = false := by rfl)
    (hsw : swapsWith (.Call (.Name x fp) (e :: es) [] cp) (some (.Name y yp)) ap.line X.env = pure false := by rfl) (hsz : swapsWith (.Name n np) (some (.Name z zp)) zap.line X.env = pure false := by rfl) :
    PS X (.Try [.Assign [.Name y yp] (.Call (.Name x fp) (e :: es) [] cp) ap] [.ExceptHandler (some (.Name S spp)) (some n) [.Assign [.Name z zp] (.Name n np) zap] hp] [] [] pos) (tTry X.K SA iy iz ie sp t) := by
  intro pins s σ H D I h
  obtain ⟨f, fd, F, b, kp, hm⟩ := C
  refine wpAny_Try_except (wpAny_execs_cons (wpAny_Assign_Name ?_ hsw))
  refine wpAny_Call_Name_kw (ld_glob I hg hm ?_ hdb)
  have run := ha cp pins s σ H _ I h
  rw [hxe] at run
  refine PySem.W.callWith_K (h₀ := X.base) I.ok.mod.kin kp (toE (thn run fun us s1 ⟨vs, H1, I1, r, q⟩ => ⟨I1.kIn, ?_⟩)) he hpl
  have hl : us.length = ps.length := by rw [← r.length]; exact F.len _ _ _ _ q
  refine wpAny_call (codeAny_mono (F.run X.A X.stack s1 H1 ⟨us, []⟩ (us ++ []) vs _ _ (hr.mono hk) I1.env0 (b s1 us I1.kIn (by rw [List.append_nil]; exact hl)) (by rw [List.append_nil]; exact r) q) fun r' s2 hq => ?_)
  cases r' with
  | ok fl =>
    cases fl with
    | ret u =>
      obtain ⟨v, H2, I2, rv, hv⟩ := I1.after hq
      exact store_ok I2 hN hy ly rv (fun s3 I3 => wpAny_execs_nil (wpAny_execs_nil ⟨_, H2, I3, hv⟩)) fy
    | next => exact False.elim hq
    | brk => exact False.elim hq
    | cont => exact False.elim hq
  | error ev =>
    obtain ⟨xa, C, H2, B, rfl, Fl, C', hC, hsub, hE⟩ := hq
    cases hC
    obtain ⟨ta, fl⟩ := Fl.fl
    have hfr : X.A.frames = some (X.env :: X.outer) := by rw [← hst]; exact I.ok.frames
    have fl' := fl
    rw [hst] at fl'
    have hxl : xa ≠ X.env.locals := fun z => by
      obtain ⟨m, ⟨o, es', ep, e', _⟩, _⟩ := I1.loc
      rw [← z, Fl.new] at e'; cases e'
    have hxc : ∀ y a, X.env.cells.lookup y = some a → a ≠ xa := fun y a e' z => by
      obtain ⟨v, o, ho, _⟩ := I1.cell y a e'
      rw [z, Fl.new] at ho; cases ho
    have hxp : ∀ p ∈ X.pn ++ pins, p.1 ≠ xa := fun p hp z => by
      have := (I1.pin p hp).1
      rw [z, Fl.new] at this; cases this
    have inv_at : ∀ (h' : Heap), B.StaysIn h' → s2.heap.UpToSlots h' → Inv X pins σ H2 { s2 with heap := h' } := fun h' k1 k2 => by
      obtain ⟨un, hok⟩ := Fl.turn k1 k2
      exact I1.call' (s' := { s2 with heap := h' }) Fl.os un hok Fl.bare (fun b z => absurd z (by simp))
    refine wpAny_looks_onW hfr hfm fl' fun h4 held4 up4 => ?_
    refine wpAny_landsW held4 fun h5 fl5 up5 => ?_
    have up45 := up4.trans up5
    have I5 := inv_at h5 fl5.1 up45
    have c5 : XAt xa C h5 := by obtain ⟨o, e1, e2⟩ := fl5.there; exact ⟨o, e1, e2⟩
    refine wpAny_handleBy_cons (codeAny_handlers_test (ld_glob (X := sui X (.ref xa)) (Inv.suite I5 _) hgS cl.nm ?_ hdS)) (by intro q; cases q)
    refine x_matches I5.kIn c5 cl.ty cl.cl cl.bs hsub ?_
    refine codeAny_handlers_suite_as (lands_againW fl5 fun h6 fl6 up6 => ?_)
    have I6 := inv_at h6 fl6.1 (up45.trans up6)
    have c6 : XAt xa C h6 := by obtain ⟨o, e1, e2⟩ := fl6.there; exact ⟨o, e1, e2⟩
    have x0 : X.s₀.heap.get? xa = none := by
      cases e' : X.s₀.heap.get? xa with
      | none => rfl
      | some o =>
        obtain ⟨o', e1⟩ := I1.base.there xa o e' (by rw [hex]; simp)
        rw [Fl.new] at e1; cases e1
    have I7 := Inv.trackX I6 Fl.xf c6 x0 hxl hxc hxp
    refine store_ok (X := sui X (.ref xa)) (Inv.suite I7 _) hN hn (.inl ln) (v := .ref xa) rfl (fun s8 I8 => ?_) (.inr ln)
    have suite : PSs (sui X (.ref xa)) [.Assign [.Name z zp] (.Name n np) zap] (tAsg (tVar ie) (gName iz)) := pss_one (ps_set hN hz lz (pe_var hn (.inl ln) hdn hcn) hsz fz)
    have hiσ : ie < σ.length := by rw [I.len]; exact (List.getElem?_eq_some_iff.mp hn).1
    have go := suite pins s8 _ _ { nx := fun σ' H' => σ' = (σ.set ie (some (.ref xa))).set iz (some (.ref xa)) ∧ H' = upd H2 xa (Exc xa C), rt := fun _ _ => False } I8 ⟨_, List.getElem?_set_self hiσ, rfl, rfl⟩
    refine toE (wpAny_mono go (fun f s9 hf => ?_) fun _ _ z => z)
    cases f with
    | next =>
      obtain ⟨σ9, H9, I9, rfl, rfl⟩ := hf
      exact goes_ok (Inv.unsuite I.ok I9) hN hn ln fun s10 I10 => ⟨_, _, I10, hE xa Fl.xf⟩
    | ret u => obtain ⟨_, _, _, _, _, z⟩ := hf; exact z.elim
    | brk => obtain ⟨_, _, _, z⟩ := hf; exact z.elim
    | cont => obtain ⟨_, _, _, z⟩ := hf; exact z.elim
end
end L3

/-! try: f(..) as a statement of its own, except C as n: z = n. -/
namespace L3
open PySem PySem.Spec PyProof.Rows L2
section
variable {X : Cx} {pins : List (Addr × Obj)} {σ : L2.St} {H : Hp} {s : Shared}
end
end L3

/-! a try whose block chooses between three calls, each a statement of its own. -/
namespace L3
open PySem PySem.Spec PyProof.Rows L2 PySem.W
section
variable {X : Cx}
end
end L3
namespace L3
open PySem PySem.Spec PyProof.Rows L2
end L3
namespace L3
open PySem PySem.Spec PyProof.Rows L2
theorem pe_or {X : Cx} {e : Expr} {t1 t2 : TE} (h1 : PE X e t1) (h2 : PE X e t2) : PE X e (fun σ H Q => t1 σ H Q ∨ t2 σ H Q) := fun pins s σ H Q I h => h.elim (h1 pins s σ H Q I) (h2 pins s σ H Q I)
end L3

/-! Dicts: setdefault, get; keys that are numbers, texts, or tuples of these. -/
namespace L3
open PySem PySem.Spec PyProof.Rows L2
section
variable {prog : Program} {w : World} {κ : Type} [DecidableEq κ] {knd : HeapKind prog w κ} {A : Around} {E : Value → Shared → Prop} {s : Shared}
end
section
variable {X : Cx}
end
end L3

/-! A loop over a text. -/
namespace L3
open PySem PySem.Spec PyProof.Rows L2
def Its (x : Str) : It := ⟨fun i _ => i < x.cps.size, fun i H v H' => H' = H ∧ ∃ c, x.cps[i]? = some c ∧ v = .str ⟨#[c]⟩, fun i _ => x.cps.size ≤ i⟩
theorem str_walks {prog : Program} {w : World} {A : Around} (hh : A.handled = none) (it : Addr) (x : Str) (t : Tok) {ty : String} (hty : ty = "str_ascii_iterator" ∨ ty = "str_iterator") :
    Walks prog w A it [it] [it] x.cps.size (SignAt x) (fun i h => h.IsStrIter it ty x t i) := by
  rcases hty with rfl | rfl
  · exact Walks.strAscii hh it x t
  · exact Walks.strWide hh it x t
theorem turn_str {P : Program} {w : World} {K : PySem.W.Frag} {tg : Expr} (it : Addr) (x : Str) (t : Tok) {ty : String} (hty : ty = "str_ascii_iterator" ∨ ty = "str_iterator") : Turn P w K tg (Its x) [it] it (fun i h => h.IsStrIter it ty x t i) where
  mem := by simp
  obj := fun i h st b hb => by
    have e : b = it := by simpa using hb
    subst e
    obtain ⟨o, e, c, d⟩ := st
    exact ⟨o, e, fun v z => by rw [d] at z; cases z⟩
  keep := fun i h h' st k => let ⟨o, ho, r⟩ := st; ⟨o, k it (by simp) o ho, r⟩
  item := by
    intro X hP hw hK hc i pins s σ H E I hf st hg
    subst hP hw hK
    obtain ⟨f0, f1, f2, f3, f4, f5⟩ := hf it (by simp)
    refine (str_walks (prog := X.prog) (w := X.w) (I.ok.hd hc) it x t hty).item i s _ _ hg st fun v h' tk hv st' kk => ?_
    obtain ⟨c, u, hcx, rfl⟩ := hv
    have I1 : Inv X pins σ H { s with heap := h', toks := tk } := I.turned (fun b o hb e => kk b o (by simpa using hb) e) f0 f1 f3 f4 f5
    obtain ⟨o, e, cc, d⟩ := id st'
    exact ⟨_, rfl, go_of (s := { s with heap := h', toks := tk }) e cc d (by rcases hty with rfl | rfl <;> decide) ⟨.str ⟨#[c]⟩, H, I1, ⟨u, rfl⟩, ⟨rfl, c, hcx, rfl⟩, st', fun b hb => (hf b hb).1⟩⟩
  done := by
    intro X hP hw hK hc i pins s σ H E I hf st hg
    subst hP hw hK
    obtain ⟨f0, f1, f2, f3, f4, f5⟩ := hf it (by simp)
    have hx : x.cps[i]? = none := Array.getElem?_eq_none hg
    rcases hty with rfl | rfl
    · exact wpAny_pyNext_ascii_end (I.ok.hd hc) st hx fun h' eb => ⟨rfl, I.turned (t' := s.toks) (fun b o hb e => eb b o hb e) f0 f1 f3 f4 f5⟩
    · exact wpAny_pyNext_wide_end (I.ok.hd hc) st hx fun h' eb => ⟨rfl, I.turned (t' := s.toks) (fun b o hb e => eb b o hb e) f0 f1 f3 f4 f5⟩
  self := fun _ _ _ _ _ st h => by
    rcases hty with rfl | rfl
    · exact wpAny_pyIter_striter_ascii st h
    · exact wpAny_pyIter_striter_wide st h
section
variable {X : Cx} {tg : Expr}
def iStr (tl : TE) : TI := fun σ H R => tl σ H fun x H1 => ∃ z, x = .str z ∧ R (Its z) H1
theorem pi_str {l : Expr} {tl : TE} (hl : PE X l tl) : PI X tg l (iStr tl) := by
  intro pins s σ H R I h
  refine thn (hl pins s σ H _ I h) fun v s1 ⟨x, H1, I1, r1, q1⟩ => ?_
  obtain ⟨z, e, q⟩ := q1
  subst e
  obtain ⟨t, rfl⟩ := r1
  have fp : ∀ b ∈ [s1.heap.objs.size], FpOk X pins H1 b := fun b hb => by
    have e : b = s1.heap.objs.size := by simpa using hb
    subst e
    exact I1.fpOk (Nat.le_refl _) (I1.hok.fresh (Nat.le_refl _))
  cases ha : z.cps.all (· < 128)
  · exact wpAny_pyIter_wide ha ⟨s1.heap.objs.size, [s1.heap.objs.size], _, _, H1, rfl, I1.kept (t' := s1.toks) fun b o e => Heap.get?_push_of_some _ e, turn_str _ z t (.inr rfl), ⟨_, Heap.get?_push_size _ rfl, rfl, rfl⟩, fp, q⟩
  · exact wpAny_pyIter_ascii ha ⟨s1.heap.objs.size, [s1.heap.objs.size], _, _, H1, rfl, I1.kept (t' := s1.toks) fun b o e => Heap.get?_push_of_some _ e, turn_str _ z t (.inl rfl), ⟨_, Heap.get?_push_size _ rfl, rfl, rfl⟩, fp, q⟩
end
end L3

/-! A dict of whatever keys, walked: list(d), sorted(d), for k in d. -/
namespace L3
open PySem PySem.Spec PyProof.Rows L2 PySem.W
section
variable {prog : Program} {w : World} {A : Around} {E : Value → Shared → Prop} {s : Shared} {d it : Addr} {es : Array DictEntry} {p i : Nat}
end
end L3

/-! Dicts: len, list, sorted. -/
namespace L3
open PySem PySem.Spec PyProof.Rows L2 PySem.W
section
variable {prog : Program} {w : World} {A : Around} {E : Value → Shared → Prop} {s : Shared} {d : Addr} {es : Array DictEntry} {p : Nat}
end
end L3

/-! Dicts in calls: len(d), list(d), sorted(d). -/
namespace L3
open PySem PySem.Spec PyProof.Rows L2 PySem.W
section
variable {X : Cx} {pins : List (Addr × Obj)} {σ : L2.St} {H : Hp} {s : Shared} {a : Addr}
end
end L3
namespace L3
open PySem PySem.Spec PyProof.Rows L2
theorem for_str {x : Str} {g : TG} {tb : TS} {D : Ends} {σ : L2.St} {H : Hp} (Pv : Nat → L2.St → Hp → Prop) (h0 : Pv 0 σ H)
    (hs : ∀ i c σ H, x.cps.toList[i]? = some c → Pv i σ H → g (.str ⟨#[c]⟩) σ H fun σ2 H2 => tb { D with nx := Pv (i + 1), ct := Pv (i + 1), bk := D.nx } σ2 H2) (hd : ∀ σ H, Pv x.cps.toList.length σ H → D.nx σ H) :
    ∃ W : Nat → Nat → L2.St → Hp → Prop, (∃ m, W 0 m σ H) ∧ ∀ i m σ H, W i m σ H →
      ((Its x).stop i H ∧ D.nx σ H) ∨ ((Its x).go i H ∧ ∃ N : L2.St → Hp → Prop, (∀ σ' H', N σ' H' → ∃ m', m' < m ∧ W (i + 1) m' σ' H') ∧ ∀ v H', (Its x).yld i H v H' → g v σ H' fun σ2 H2 => tb { D with nx := N, ct := N, bk := D.nx } σ2 H2) := by
  refine ⟨fun i m σ H => m = x.cps.size - i ∧ i ≤ x.cps.size ∧ Pv i σ H, ⟨x.cps.size, by simp, Nat.zero_le _, h0⟩, ?_⟩
  rintro i m σ H ⟨rfl, hi, p⟩
  by_cases c : i < x.cps.size
  · refine .inr ⟨c, Pv (i + 1), fun σ' H' p' => ⟨x.cps.size - (i + 1), by omega, rfl, c, p'⟩, fun v H' y => ?_⟩
    obtain ⟨rfl, k, hk, rfl⟩ := y
    exact hs i k σ _ (by rw [Array.getElem?_toList]; exact hk) p
  · have e : i = x.cps.toList.length := by rw [Array.length_toList]; omega
    refine .inl ⟨Nat.le_of_not_lt c, hd σ H (e ▸ p)⟩
end L3

/-! str(n), int(x), x.split(c). -/
namespace L3
open PySem PySem.Spec PyProof.Rows L2 PySem.W
section
variable {X : Cx}
theorem pe_globS {x y : Str} {pos : Pos} (hg : Gl X x) (hm : ∃ t, X.mg x = some (.str y t)) (hd : (x == ("__debug__" : Str)) = false := by decide) : PE X (.Name x pos) (tC (.str y)) := by
  obtain ⟨t, hm⟩ := hm
  exact pe_glob hg hm ⟨t, rfl⟩ hd
def numS (n : Nat) : Str := Str.ofString (toString (n : Int))
theorem call_strI : CallR X (.type "str") (fun xs H Q => ∃ n : Nat, xs = [.int n] ∧ n ≤ 1000 ∧ Q (.str (numS n)) H) := by
  intro pins s σ H xs us Q I r h
  obtain ⟨n, rfl, hn, q⟩ := h
  obtain ⟨u, rfl, t, rfl⟩ := vals1 r
  refine P.str_of_int ?_ ⟨.str (numS n), H, I.tok _, ⟨_, rfl⟩, q⟩
  show n.log2 < 1920
  exact Nat.lt_of_le_of_lt (Nat.log2_le_self n) (by omega)
def rSplit : V → List V → Hp → VK → Prop := fun x vs H Q => ∃ (a : Str) (c : Nat), x = .str a ∧ vs = [.str ⟨#[c]⟩] ∧ a.length ≤ 100000 ∧ (Txt.split a ⟨#[c]⟩).length ≤ 10000 ∧ ∀ l, H l = none → Q (.ref l) (upd H l (.lst ((Txt.split a ⟨#[c]⟩).map V.str)))
theorem vals_numd : ∀ (ps : List (Str × Tok)), Vals ((ps.map (·.1)).map V.str) (strValues ps)
  | [] => .nil
  | (x, t) :: ps => .cons ⟨t, rfl⟩ (vals_numd ps)
theorem mt_split : MtR X "str.split" rSplit := by
  intro pins s σ H x vs v us Q I rx rv h
  obtain ⟨a, c, rfl, rfl, hl, hz, q⟩ := h
  obtain ⟨t, rfl⟩ := rx
  obtain ⟨u, rfl, ru⟩ := vals1 rv
  obtain ⟨t2, rfl⟩ := ru
  have fin : ∀ (ps : List (Str × Tok)) (tk : Nat), ps.map (·.1) = Txt.split a ⟨#[c]⟩ → EP X pins σ Q (.ref s.heap.objs.size) { s with heap := s.heap.push { cls := .type "list", data := .seq (strValues ps).toArray }, toks := tk } := fun ps tk e =>
    ⟨.ref s.heap.objs.size, _, I.laid (t' := tk) (o := .lst ((Txt.split a ⟨#[c]⟩).map V.str)) (fun b o z => Heap.get?_push_of_some _ z) (Nat.le_refl _) ⟨by rw [List.length_map]; exact Nat.le_trans hz (by rw [sizeLine_eq]; decide), strValues ps, 0, by rw [← e]; exact vals_numd ps, Heap.get?_push_size _ rfl⟩, rfl, q _ (I.hok.fresh (Nat.le_refl _))⟩
  have hx : a.length ≤ sizeLine := by rw [sizeLine_eq]; omega
  have hy : ((⟨#[c]⟩ : Str).length == 0) = false := rfl
  cases h1 : (decide (a.length < (⟨#[c]⟩ : Str).length) || decide (Builtin.Str.strKind a < Builtin.Str.strKind ⟨#[c]⟩))
  · cases hf : (Builtin.Str.occurrences a ⟨#[c]⟩ 0 a.length (a.length + 1)).isEmpty
    · have e : Txt.split a ⟨#[c]⟩ = Builtin.Str.partsBetween a (Builtin.Str.occurrences a ⟨#[c]⟩ 0 a.length (a.length + 1)) (⟨#[c]⟩ : Str).length := (if_neg (ne_true_of_eq_false h1)).trans (if_neg (ne_true_of_eq_false hf))
      refine call_meets PySem.F.slot_str_split (typeIs_str _ _ _) PySem.F.entry_str_split (PySem.F.args_str_split_2 _ _) (meets_str_split_sep a ⟨#[c]⟩ t t2 h1 hy hf hx (by rw [← e]; exact Nat.le_trans hz (by rw [sizeLine_eq]; decide))) ?_
      show wants _ _ _ { s with toks := _, heap := s.heap.push { cls := .type "list", data := .seq (strsFrom s.toks (Builtin.Str.partsBetween a (Builtin.Str.occurrences a ⟨#[c]⟩ 0 a.length (a.length + 1)) (⟨#[c]⟩ : Str).length)).toArray } }
      rw [strsFrom_eq]
      exact fin (numbered s.toks _) _ ((numbered_texts _ _).trans e.symm)
    · exact call_meets PySem.F.slot_str_split (typeIs_str _ _ _) PySem.F.entry_str_split (PySem.F.args_str_split_2 _ _) (meets_str_split_not_found a ⟨#[c]⟩ t t2 h1 hy hf) (fin [(a, t)] s.toks ((if_neg (ne_true_of_eq_false h1)).trans (if_pos hf)).symm)
  · exact call_meets PySem.F.slot_str_split (typeIs_str _ _ _) PySem.F.entry_str_split (PySem.F.args_str_split_2 _ _) (meets_str_split_cannot_occur a ⟨#[c]⟩ t t2 h1) (fin [(a, t)] s.toks (if_pos h1).symm)
end
end L3

/-! '0123456789'.index(c), x.strip('-'), int(figures). -/
namespace L3
open PySem PySem.Spec PyProof.Rows L2 PySem.W
section
variable {X : Cx}
def figsS : Str := Str.ofString "0123456789"
theorem occ_figs : ∀ c ∈ List.range' 48 10, Builtin.Str.occurrences figsS ⟨#[c]⟩ 0 figsS.length 1 = [c - 48] := by decide +kernel
def rIdxS : V → List V → Hp → VK → Prop := fun x vs H Q => ∃ c : Nat, x = .str figsS ∧ vs = [.str ⟨#[c]⟩] ∧ 48 ≤ c ∧ c ≤ 57 ∧ Q (.int ((c - 48 : Nat) : Int)) H
theorem mt_idxS : MtR X "str.index" rIdxS := by
  intro pins s σ H x vs v us Q I rx rv h
  obtain ⟨c, rfl, rfl, h1, h2, q⟩ := h
  obtain ⟨t, rfl⟩ := rx
  obtain ⟨u, rfl, ru⟩ := vals1 rv
  obtain ⟨t2, rfl⟩ := ru
  exact call_meets PySem.F.slot_str_index (typeIs_str _ _ _) PySem.F.entry_str_index (PySem.F.args_str_index_2 _ _) (gives_str_index figsS ⟨#[c]⟩ t t2 (c - 48) [] (occ_figs c (by simp; omega))).meets (show (Made.int _).post _ s from ⟨.int _, H, I.tok _, ⟨_, rfl⟩, q⟩)
def dashS : Str := Str.ofString "-"
def rStripS : V → List V → Hp → VK → Prop := fun x vs H Q => ∃ a : Str, x = .str a ∧ vs = [.str dashS] ∧ a.length ≤ 10000 ∧ ((a = dashS ∧ Q (.str (Str.ofString "")) H) ∨ (45 ∉ cl a ∧ Q (.str a) H))
theorem tw_none {p : Nat → Bool} : ∀ {l : List Nat}, (∀ c ∈ l, p c = false) → l.takeWhile p = []
  | [], _ => rfl
  | c :: l, h => by rw [List.takeWhile_cons, h c (List.mem_cons_self ..)]; rfl
theorem strip_no {a : Str} (h : 45 ∉ cl a) : stripSame dashS.cps.contains true true a = true := by
  have e : ∀ c ∈ cl a, dashS.cps.contains c = false := fun c hc => by
    have : dashS.cps = #[45] := by decide +kernel
    rw [this]
    have hne : c ≠ 45 := fun z => h (z ▸ hc)
    simp [hne]
  unfold stripSame stripLo stripHi
  have e1 : (a.cps.toList.takeWhile dashS.cps.contains) = [] := tw_none e
  simp only [if_true, e1, List.length_nil, List.drop_zero]
  rw [show a.cps.toList.reverse.takeWhile dashS.cps.contains = [] from tw_none fun c hc => e c (List.mem_reverse.mp hc)]
  simp
theorem mt_stripS : MtR X "str.strip" rStripS := by
  intro pins s σ H x vs v us Q I rx rv h
  obtain ⟨a, rfl, rfl, hl, h⟩ := h
  obtain ⟨t, rfl⟩ := rx
  obtain ⟨u, rfl, ru⟩ := vals1 rv
  obtain ⟨t2, rfl⟩ := ru
  rcases h with ⟨rfl, q⟩ | ⟨hn, q⟩
  · have g := gives_str_strip_chars dashS dashS t t2
    rw [if_neg (by decide +kernel), show PySem.stripped dashS.cps.contains true true dashS = Str.ofString "" by decide +kernel] at g
    exact call_meets PySem.F.slot_str_strip (typeIs_str _ _ _) PySem.F.entry_str_strip (PySem.F.args_str_strip_2 _ _) g.meets (show (Made.str _).post _ s from ⟨szl (by decide +kernel), .str _, H, I.tok _, ⟨_, rfl⟩, q⟩)
  · have g := gives_str_strip_chars a dashS t t2
    rw [if_pos (strip_no hn)] at g
    exact call_meets PySem.F.slot_str_strip (typeIs_str _ _ _) PySem.F.entry_str_strip (PySem.F.args_str_strip_2 _ _) g.meets (show (Made.val _).post _ s from ⟨.str a, H, I, ⟨_, rfl⟩, q⟩)
theorem call_intT : CallR X (.type "int") (fun xs H Q => ∃ x : Str, xs = [.str x] ∧ 1 ≤ x.length ∧ x.length ≤ 10 ∧ (∀ c ∈ cl x, 48 ≤ c ∧ c ≤ 57) ∧ Q (.int ((NumText.digitsVal (cl x) : Nat) : Int)) H) := by
  intro pins s σ H xs us Q I r h
  obtain ⟨x, rfl, h1, h2, hd, q⟩ := h
  obtain ⟨u, rfl, t, rfl⟩ := vals1 r
  exact KIN.call_text (PySem.intText_digits hd (fun e => by rw [← cl_length, show cl x = [] from e] at h1; exact absurd h1 (by decide)) (by omega)) (by omega) ⟨.int _, H, I.tok _, ⟨_, rfl⟩, q⟩
end
end L3

/-! int(x), x the figures of a number below 201. -/
namespace L3
open PySem PySem.Spec PyProof.Rows L2 PySem.W
def figs (n : Nat) : List Nat := if n < 10 then [48 + n] else if n < 100 then [48 + n / 10, 48 + n % 10] else [48 + n / 100, 48 + n / 10 % 10, 48 + n % 10]
theorem num_figs : ∀ n, n < 201 → numS n = ⟨(figs n).toArray⟩ := by decide +kernel
section
variable {X : Cx}
end
end L3

/-! isinstance of deep data. -/
namespace L3
open PySem PySem.Spec PyProof.Rows L2
def tyN : D → String
  | .non => "NoneType"
  | .bl _ => "bool"
  | .int _ => "int"
  | .str _ => "str"
  | .tup _ => "tuple"
  | .lst _ => "list"
def isT (d : D) (T : String) : Bool := match d with
  | .non => T == "NoneType"
  | .bl _ => T == "bool" || T == "int"
  | .int _ => T == "int"
  | .str _ => T == "str"
  | .tup _ => T == "tuple"
  | .lst _ => T == "list"
theorem kit_isT {K : PySem.W.Frag} (d : D) {T : String} (h : T = "tuple" ∨ T = "int" ∨ T = "bool" ∨ T = "str" ∨ T = "list") : PySem.W.kitOne K (.type (tyN d)) (.type T) = some (isT d T) := by
  rcases h with rfl | rfl | rfl | rfl | rfl <;> cases d <;> rfl
section
variable {X : Cx}
theorem call_isinstD : CallR X (.builtin "isinstance") (fun xs H Q => ∃ x d T, xs = [x, .ty T] ∧ Rep X.K H d x ∧ (T = "tuple" ∨ T = "int" ∨ T = "bool" ∨ T = "str" ∨ T = "list") ∧ Q (.bl (isT d T)) H) := by
  intro pins s σ H xs us Q I r h
  obtain ⟨x, d, T, rfl, rep, hT, q⟩ := h
  obtain ⟨u, w', rfl, rx, rt⟩ := vals2 r
  cases rt
  have k := kit_isT (K := X.K) d hT
  have fin : ∀ tk, EP X pins σ Q (.bool (isT d T)) { s with toks := tk } := fun tk => ⟨.bl (isT d T), H, I.tok _, rfl, q⟩
  cases d with
  | non => unfold Rep at rep; subst rep; exact isinst_ok I rx .non k fin
  | bl b => unfold Rep at rep; subst rep; exact isinst_ok I rx (.bl b) k fin
  | int i => unfold Rep at rep; subst rep; exact isinst_ok I rx (.int i) k fin
  | str y => unfold Rep at rep; subst rep; exact isinst_ok I rx (.str y) k fin
  | tup ds =>
    unfold Rep at rep
    obtain ⟨a, ys, rfl, hq, _⟩ := rep
    cases (show u = Value.ref a from rx)
    obtain ⟨its, _, p, _⟩ := I.tuple hq
    obtain ⟨o, h1, h2, _⟩ := p
    exact PySem.W.kia_one PySem.W.kitx_tuple I.kIn ⟨o, h1, h2⟩ k (fun z => nomatch z) fin
  | lst ds =>
    unfold Rep at rep
    obtain ⟨a, ys, rfl, hq, _⟩ := rep
    cases (show u = Value.ref a from rx)
    obtain ⟨its, _, p, _⟩ := I.list hq
    obtain ⟨o, h1, h2, _⟩ := p.isList
    exact PySem.W.kia_one PySem.W.kitx_list I.kIn ⟨o, h1, h2⟩ k (fun z => nomatch z) fin
end
end L3
namespace L3
open PySem PySem.Spec PyProof.Rows L2
section
variable {X : Cx}
theorem op_le_str : OpR X (compareOp .LtE) (fun x y H Q => ∃ i j, x = .str i ∧ y = .str j ∧ Q (.bl (!decide (cl j < cl i))) H) := by
  intro pins s σ H x y v u Q I rx ry h
  obtain ⟨i, j, rfl, rfl, q⟩ := h
  obtain ⟨t, rfl⟩ := rx
  obtain ⟨t', rfl⟩ := ry
  exact PySem.P.le_str ⟨.bl (!decide (cl j < cl i)), H, I, rfl, q⟩
end
end L3

/-! A text within a text. -/
namespace L3
open PySem
end L3

/-! A comprehension over a text. -/
namespace L3
open PySem PySem.Spec PyProof.Rows L2
theorem comp_str {x : Str} {g : TG} {tf : TT} {te : TE} {τ : L2.St} {H : Hp} {Q : VK} (Pv : Nat → List V → L2.St → Hp → Prop) (h0 : Pv 0 [] τ H)
    (hs : ∀ i c ys τ H, (cl x)[i]? = some c → Pv i ys τ H → g (.str ⟨#[c]⟩) τ H fun τ2 H2 => tf τ2 H2 fun b H3 => if b = true then te τ2 H3 fun y H4 => ys.length < sizeLine ∧ Pv (i + 1) (ys ++ [y]) τ2 H4 else Pv (i + 1) ys τ2 H3)
    (hd : ∀ ys τ H, Pv (cl x).length ys τ H → ∀ p, H p = none → Q (.ref p) (upd H p (.lst ys))) :
    CompGo (Its x) g tf te Q τ H := by
  refine ⟨fun i m ys τ H => m = x.cps.size - i ∧ i ≤ x.cps.size ∧ Pv i ys τ H, ⟨x.cps.size, by simp, Nat.zero_le _, h0⟩, ?_⟩
  rintro i m ys τ H ⟨rfl, hi, p⟩
  by_cases c : i < x.cps.size
  · refine .inr ⟨c, Pv (i + 1), fun ys' τ' H' p' => ⟨x.cps.size - (i + 1), by omega, rfl, c, p'⟩, fun v H' y => ?_⟩
    obtain ⟨rfl, k, hk, rfl⟩ := y
    exact hs i k ys τ _ (by show x.cps.toList[i]? = _; rw [Array.getElem?_toList]; exact hk) p
  · have e : i = (cl x).length := by rw [cl_length]; show i = x.cps.size; omega
    exact .inl ⟨Nat.le_of_not_lt c, fun q hq => hd ys τ H (e ▸ p) q hq⟩
end L3

/-! x.startswith(y) of two texts. -/
namespace L3
open PySem PySem.Spec PyProof.Rows L2 PySem.W
section
variable {X : Cx}
def rStarts : V → List V → Hp → VK → Prop := fun x vs H Q => ∃ a b, x = .str a ∧ vs = [.str b] ∧ Q (.bl (Txt.startswith a b)) H
theorem mt_starts : MtR X "str.startswith" rStarts := by
  intro pins s σ H x vs v us Q I rx rv h
  obtain ⟨a, b, rfl, rfl, q⟩ := h
  obtain ⟨t, rfl⟩ := rx
  obtain ⟨u, rfl, ru⟩ := vals1 rv
  obtain ⟨t2, rfl⟩ := ru
  exact SC.startswith ⟨.bl _, H, I, rfl, q⟩
end
theorem starts_pre {a b : Str} (h : cl b <+: cl a) : Txt.startswith a b = true := by
  obtain ⟨z, hz⟩ := h
  have e : a = b ++ ⟨z.toArray⟩ := str_ext (by rw [cl_append, ← hz])
  rw [e]
  exact PySem.W.KT.starts_app b _
end L3

/-! zip of a tuple and a list, walked with a pair of names. -/
namespace L3
open PySem PySem.Spec PyProof.Rows L2 PySem.W
section
variable {prog : Program} {w : World} {A : Around} {E : Value → Shared → Prop} {s : Shared}
structure Gv (prog : Program) (w : World) (it : Addr) (fp : List Addr) (xs : Array Value) (St : Nat → Heap → Prop) : Prop where
  keep : ∀ i h h', St i h → (∀ b ∈ fp, ∀ o, h.get? b = some o → h'.get? b = some o) → St i h'
  item : ∀ i x (s : Shared) (A : Around) (Q : Value → Shared → Prop) (E : Value → Shared → Prop), St i s.heap → xs[i]? = some x → (∀ h', St (i + 1) h' → Heap.SameBut it s.heap h' → Q x { s with heap := h' }) → wpAny (model prog w) A (Builtin.SmallTypes.nextOf (.ref it)) Q E s
  done : ∀ i (s : Shared) (A : Around) (Q : Value → Shared → Prop) (E : Value → Shared → Prop), A.handled = none → St i s.heap → xs[i]? = none → (∀ h' e, Heap.ExtBut it s.heap h' → (∃ o, h'.get? e = some o ∧ o.cls = .type "StopIteration") → E (.ref e) { s with heap := h' }) → wpAny (model prog w) A (Builtin.SmallTypes.nextOf (.ref it)) Q E s
theorem gv_list {it l : Addr} {xs : Array Value} (n : l ≠ it) : Gv prog w it [it, l] xs (fun i h => h.IsListIter it l i ∧ h.IsList l xs) where
  keep := fun i h h' ⟨⟨o, e, r⟩, ⟨u, f, q⟩⟩ k => ⟨⟨o, k it (by simp) o e, r⟩, ⟨u, k l (by simp) u f, q⟩⟩
  item := fun i x s A Q E st hx q => wpAny_nextOf_list_item st.1 st.2 hx fun h' st' sb => q h' ⟨st', st.2.extBut sb.extBut n⟩ sb
  done := fun i s A Q E hh st hx q => wpAny_nextOf_list_end hh st.1 st.2 hx fun h' e eb he => q h' e eb he
theorem gv_tup {it t : Addr} {xs : Array Value} (n : t ≠ it) : Gv prog w it [it, t] xs (fun i h => h.IsTupleIter it t i ∧ h.IsTuple t xs) where
  keep := fun i h h' ⟨⟨o, e, r⟩, ⟨u, f, q⟩⟩ k => ⟨⟨o, k it (by simp) o e, r⟩, ⟨u, k t (by simp) u f, q⟩⟩
  item := fun i x s A Q E st hx q => by
    obtain ⟨a, ea, ca, da⟩ := id st.1
    obtain ⟨b, eb, cb, nb, db⟩ := id st.2
    unfold Builtin.SmallTypes.nextOf
    refine wpAny_bind (wpAny_callSpecial?_slot (name := Str.ofString "__next__") st.1.typeIs PySem.F.slot_tuple_iterator_next (wpAny_call_entry PySem.F.slot_tuple_iterator_next st.1.typeIs PySem.F.entry_tuple_iterator_next ?_ (PySem.F.args_tuple_iterator_next_1 _)))
    refine wpAny_bind (wpAny_pure (wpAny_bind (wpAny_field ea da (x := .ref t) rfl ?_)))
    show wpAny _ _ (if (Value.ref t == Value.none) = true then _ else _) _ _ _
    rw [if_neg (by intro z; cases z)]
    refine wpAny_bind (wpAny_field ea da (x := .int i 0) rfl ?_)
    refine wpAny_bind (wpAny_seqItems eb db ?_)
    simp only [Int.toNat_natCast, hx]
    have sb : Heap.SameBut it s.heap (s.heap.update it (Obj.mapFields (·.setIfInBounds 1 (rawInt ((i : Int) + 1))))) := Heap.SameBut.update ..
    exact wpAny_bind (wpAny_setField ea da (by simp) (wpAny_pure ⟨x, rfl, wpAny_pure (q _ ⟨⟨_, Heap.get?_update_self _ ea (Obj.isFreed_of_fields (Obj.data_mapFields da _)), (Obj.cls_mapFields ..).trans ca, by rw [Obj.data_mapFields da]; simp [rawInt]⟩, st.2.extBut sb.extBut n⟩ sb)⟩))
  done := fun i s A Q E hh st hx q => by
    obtain ⟨a, ea, ca, da⟩ := id st.1
    obtain ⟨b, eb, cb, nb, db⟩ := id st.2
    unfold Builtin.SmallTypes.nextOf
    refine wpAny_bind (wpAny_callSpecial?_slot (name := Str.ofString "__next__") st.1.typeIs PySem.F.slot_tuple_iterator_next (wpAny_call_entry PySem.F.slot_tuple_iterator_next st.1.typeIs PySem.F.entry_tuple_iterator_next ?_ (PySem.F.args_tuple_iterator_next_1 _)))
    refine wpAny_bind (wpAny_pure (wpAny_bind (wpAny_field ea da (x := .ref t) rfl ?_)))
    show wpAny _ _ (if (Value.ref t == Value.none) = true then _ else _) _ _ _
    rw [if_neg (by intro z; cases z)]
    refine wpAny_bind (wpAny_field ea da (x := .int i 0) rfl ?_)
    refine wpAny_bind (wpAny_seqItems eb db ?_)
    simp only [Int.toNat_natCast, hx]
    refine wpAny_bind (wpAny_rule (wpAny_bind (wpAny_setField ea da (by simp) ?_)))
    show wpAny _ _ (newExc (.type "StopIteration") ([] : List Value) >>= _) _ _ _
    refine wpAny_bind ?_
    simp only [newExc, newTuple]
    refine wpAny_bind (wpAny_newObj_type (wpAny_bind (m := firstArgMember _ _) (wpAny_of_eq (a := .none) (by first | rfl | (simp only [firstArgMember]; rfl)) (wpAny_newObj_type ?_ (by size_fits)))) (by size_fits))
    simp only [raiseNew]
    refine wpAny_bind (wpAny_handled ?_)
    rw [show A.in1.handled = none from hh]
    exact wpAny_bind (wpAny_pure (wpAny_throw (q _ _ (((Heap.SameBut.update ..).extBut.push _).push _) ⟨_, Heap.get?_push_size _ rfl, rfl⟩)))
structure ZpA (z TI TO i1 i2 : Addr) (f1 f2 : List Addr) : Prop where
  TIz : TI ≠ z
  TOz : TO ≠ z
  TIO : TI ≠ TO
  TI1 : TI ≠ i1
  TI2 : TI ≠ i2
  m1 : i1 ∈ f1
  m2 : i2 ∈ f2
  a1 : ∀ b ∈ f1, b ≠ z ∧ b ≠ TO ∧ b ≠ i2
  a2 : ∀ b ∈ f2, b ≠ z ∧ b ≠ TO ∧ b ≠ i1
variable {z TI TO i1 i2 : Addr} {f1 f2 : List Addr} {xs ys : Array Value} {S1 S2 : Nat → Heap → Prop}
theorem zp_item {k : Nat} {x y a b : Value} {Q : Option Value → Shared → Prop} (G1 : Gv prog w i1 f1 xs S1) (G2 : Gv prog w i2 f2 ys S2) (D : ZpA z TI TO i1 i2 f1 f2)
    (hz : IsZip s.heap z TI TO .none) (hI : IsPair s.heap TI (.ref i1) (.ref i2)) (hO : IsPair s.heap TO a b) (s1 : S1 k s.heap) (s2 : S2 k s.heap) (hx : xs[k]? = some x) (hy : ys[k]? = some y)
    (q : ∀ h', IsZip h' z TI TO (rawInt s.heap.objs.size) → IsPair h' TO x y → S1 (k + 1) h' → S2 (k + 1) h' → IsPair h' s.heap.objs.size x y → (∀ c o, c ≠ z → c ≠ TO → c ≠ i1 → c ≠ i2 → s.heap.get? c = some o → h'.get? c = some o) → Q (some (.ref s.heap.objs.size)) { s with heap := h' }) :
    wpAny (model prog w) A (pyNext (.ref z)) Q E s := by
  have ty : s.TypeIs (.ref z) "zip" := ⟨_, hz, rfl⟩
  unfold pyNext
  refine wpAny_bind (wpAny_attempt (wpAny_callSpecial?_slot (name := Str.ofString "__next__") ty PySem.F.slot_zip_next (wpAny_call_entry PySem.F.slot_zip_next ty PySem.F.entry_zip_next ?_ (PySem.F.args_zip_next_1 _))))
  unfold Builtin.«zip.__next__»
  refine wpAny_bind (wpAny_pure ?_)
  show wpAny _ _ (field (Value.ref z) 2 >>= fun _ => _) _ _ _
  refine wpAny_bind (wpAny_field hz rfl (x := .bool false) rfl ?_)
  show wpAny _ _ (field (Value.ref z) 3 >>= fun _ => _) _ _ _
  refine wpAny_bind (wpAny_field hz rfl (x := .ref TI) rfl (wpAny_bind (wpAny_seqItems hI rfl ?_)))
  show wpAny _ _ (Builtin.SmallTypes.ownedTupleIsFree (Value.ref z) >>= fun _ => _) _ _ _
  unfold Builtin.SmallTypes.ownedTupleIsFree
  refine wpAny_bind (wpAny_bind (wpAny_field hz rfl (x := .none) rfl (wpAny_pure ?_)))
  simp only [if_true]
  refine wpAny_bind (wpAny_rule (wpAny_bind (wpAny_field hz rfl (x := .ref TO) rfl ?_)))
  refine wpAny_bind (wpAny_setField_rec hz (by simp) fun k1 z1 u1 => ?_)
  replace z1 : IsZip k1 z TI TO .ellipsis := z1
  replace u1 : Heap.SameBut z s.heap k1 := u1
  refine wpAny_bind ?_
  simp only [List.zipIdx_cons, List.zipIdx_nil, List.forIn_cons, List.forIn_nil]
  have p1 : S1 k k1 := G1.keep _ _ _ s1 fun b hb o e => u1.extBut b o (D.a1 b hb).1 e
  have p2 : S2 k k1 := G2.keep _ _ _ s2 fun b hb o e => u1.extBut b o (D.a2 b hb).1 e
  have i1z := (D.a1 _ D.m1).1
  have i1O := (D.a1 _ D.m1).2.1
  have i12 := (D.a1 _ D.m1).2.2
  have i2z := (D.a2 _ D.m2).1
  have i2O := (D.a2 _ D.m2).2.1
  refine wpAny_bind (wpAny_bind (wpAny_onRaise ?_))
  show wpAny _ _ (Builtin.SmallTypes.nextOf (Value.ref i1) >>= fun _ => _) _ _ _
  refine wpAny_bind (G1.item k x { s with heap := k1 } _ _ _ p1 hx fun k2 q1 u2 => wpAny_pure ?_)
  replace u2 : Heap.SameBut i1 k1 k2 := u2
  have t2 : IsPair k2 TO a b := u2.extBut _ _ i1O.symm (u1.extBut _ _ D.TOz hO)
  have q2 : S2 k k2 := G2.keep _ _ _ p2 fun b hb o e => u2.extBut b o (D.a2 b hb).2.2 e
  refine wpAny_bind (wpAny_seqItems t2 rfl (wpAny_bind (wpAny_updateSeq_pair t2 fun k3 t3 u3 => wpAny_bind (wpAny_letGo (wpAny_pure ?_)))))
  replace t3 : IsPair k3 TO x b := t3
  replace u3 : Heap.SameBut TO k2 k3 := u3
  have r1 : S1 (k + 1) k3 := G1.keep _ _ _ q1 fun b hb o e => u3.extBut b o (D.a1 b hb).2.1 e
  have r2 : S2 k k3 := G2.keep _ _ _ q2 fun b hb o e => u3.extBut b o (D.a2 b hb).2.1 e
  refine wpAny_bind (wpAny_bind (wpAny_onRaise ?_))
  show wpAny _ _ (Builtin.SmallTypes.nextOf (Value.ref i2) >>= fun _ => _) _ _ _
  refine wpAny_bind (G2.item k y { s with heap := k3 } _ _ _ r2 hy fun k4 v2 u4 => wpAny_pure ?_)
  replace u4 : Heap.SameBut i2 k3 k4 := u4
  have t4 : IsPair k4 TO x b := u4.extBut _ _ i2O.symm t3
  have v1 : S1 (k + 1) k4 := G1.keep _ _ _ r1 fun b hb o e => u4.extBut b o (D.a1 b hb).2.2 e
  refine wpAny_bind (wpAny_seqItems t4 rfl (wpAny_bind (wpAny_updateSeq_pair t4 fun k5 t5 u5 => wpAny_bind (wpAny_letGo (wpAny_pure (wpAny_pure ?_))))))
  replace t5 : IsPair k5 TO x y := t5
  replace u5 : Heap.SameBut TO k4 k5 := u5
  have w1 : S1 (k + 1) k5 := G1.keep _ _ _ v1 fun b hb o e => u5.extBut b o (D.a1 b hb).2.1 e
  have w2 : S2 (k + 1) k5 := G2.keep _ _ _ v2 fun b hb o e => u5.extBut b o (D.a2 b hb).2.1 e
  have z5 : IsZip k5 z TI TO .ellipsis := u5.extBut _ _ D.TOz.symm (u4.extBut _ _ i2z.symm (u3.extBut _ _ D.TOz.symm (u2.extBut _ _ i1z.symm z1)))
  have sz : k5.objs.size = s.heap.objs.size := by rw [u5.1, u4.1, u3.1, u2.1, u1.1]
  have g5 : ∀ c o, c ≠ z → c ≠ TO → c ≠ i1 → c ≠ i2 → s.heap.get? c = some o → k5.get? c = some o := fun c o c1 c2 c3 c4 e => u5.extBut _ _ c2 (u4.extBut _ _ c4 (u3.extBut _ _ c2 (u2.extBut _ _ c3 (u1.extBut _ _ c1 e))))
  refine wpAny_bind (wpAny_seqItems t5 rfl (wpAny_bind (wpAny_newTuple ?_)))
  show wpAny _ _ (Builtin.SmallTypes.ownedTupleHandOut (Value.ref z) (Value.ref k5.objs.size) >>= fun _ => _) _ _ _
  unfold Builtin.SmallTypes.ownedTupleHandOut
  have z6 : IsZip (k5.push { cls := .type "tuple", data := .seq #[x, y] }) z TI TO .ellipsis := Heap.get?_push_of_some _ z5
  refine wpAny_bind (wpAny_bind (wpAny_setField_rec z6 (by simp) fun k7 z7 u7 => ?_))
  replace z7 : IsZip k7 z TI TO (rawInt k5.objs.size) := z7
  refine wpAny_setField_rec z7 (by simp) fun k8 z8 u8 => ?_
  replace z8 : IsZip k8 z TI TO (rawInt k5.objs.size) := z8
  have up : ∀ c o, c ≠ z → k5.get? c = some o → k8.get? c = some o := fun c o c1 e => u8.extBut _ _ c1 (u7.extBut _ _ c1 (Heap.get?_push_of_some _ e))
  have lt : z < k5.objs.size := Heap.lt_size z5
  have t8 : IsPair k8 k5.objs.size x y := u8.extBut _ _ (Nat.ne_of_gt lt) (u7.extBut _ _ (Nat.ne_of_gt lt) (Heap.get?_push_size _ rfl))
  rw [sz] at z8 t8
  refine wpAny_pure ⟨_, rfl, wpAny_pure ?_⟩
  show Q (some (.ref k5.objs.size)) _
  rw [sz]
  exact q k8 z8 (up _ _ D.TOz t5) (G1.keep _ _ _ w1 fun b hb o e => up b o (D.a1 b hb).1 e) (G2.keep _ _ _ w2 fun b hb o e => up b o (D.a2 b hb).1 e) t8 fun c o c1 c2 c3 c4 e => up c o c1 (g5 c o c1 c2 c3 c4 e)
theorem zp_end {k : Nat} {a b : Value} {Q : Option Value → Shared → Prop} (hh : A.handled = none) (G1 : Gv prog w i1 f1 xs S1) (G2 : Gv prog w i2 f2 ys S2) (D : ZpA z TI TO i1 i2 f1 f2)
    (hz : IsZip s.heap z TI TO .none) (hI : IsPair s.heap TI (.ref i1) (.ref i2)) (hO : IsPair s.heap TO a b) (s1 : S1 k s.heap) (s2 : S2 k s.heap) (hx : xs[k]? = none)
    (q : ∀ h', (∀ c o, c ≠ z → c ≠ TO → c ≠ i1 → c ≠ i2 → s.heap.get? c = some o → h'.get? c = some o) → Q none { s with heap := h' }) :
    wpAny (model prog w) A (pyNext (.ref z)) Q E s := by
  have ty : s.TypeIs (.ref z) "zip" := ⟨_, hz, rfl⟩
  unfold pyNext
  refine wpAny_bind (wpAny_attempt (wpAny_callSpecial?_slot (name := Str.ofString "__next__") ty PySem.F.slot_zip_next (wpAny_call_entry PySem.F.slot_zip_next ty PySem.F.entry_zip_next ?_ (PySem.F.args_zip_next_1 _))))
  unfold Builtin.«zip.__next__»
  refine wpAny_bind (wpAny_pure ?_)
  show wpAny _ _ (field (Value.ref z) 2 >>= fun _ => _) _ _ _
  refine wpAny_bind (wpAny_field hz rfl (x := .bool false) rfl ?_)
  show wpAny _ _ (field (Value.ref z) 3 >>= fun _ => _) _ _ _
  refine wpAny_bind (wpAny_field hz rfl (x := .ref TI) rfl (wpAny_bind (wpAny_seqItems hI rfl ?_)))
  show wpAny _ _ (Builtin.SmallTypes.ownedTupleIsFree (Value.ref z) >>= fun _ => _) _ _ _
  unfold Builtin.SmallTypes.ownedTupleIsFree
  refine wpAny_bind (wpAny_bind (wpAny_field hz rfl (x := .none) rfl (wpAny_pure ?_)))
  simp only [if_true]
  refine wpAny_bind (wpAny_rule (wpAny_bind (wpAny_field hz rfl (x := .ref TO) rfl ?_)))
  refine wpAny_bind (wpAny_setField_rec hz (by simp) fun k1 z1 u1 => ?_)
  replace z1 : IsZip k1 z TI TO .ellipsis := z1
  replace u1 : Heap.SameBut z s.heap k1 := u1
  refine wpAny_bind ?_
  simp only [List.zipIdx_cons, List.zipIdx_nil, List.forIn_cons, List.forIn_nil]
  have p1 : S1 k k1 := G1.keep _ _ _ s1 fun b hb o e => u1.extBut b o (D.a1 b hb).1 e
  refine wpAny_bind (wpAny_bind (wpAny_onRaise ?_))
  show wpAny _ _ (Builtin.SmallTypes.nextOf (Value.ref i1) >>= fun _ => _) _ _ _
  refine wpAny_bind (G1.done k { s with heap := k1 } _ _ _ hh p1 hx fun k2 e u2 he => ?_)
  obtain ⟨oe, h1, h2⟩ := he
  replace u2 : Heap.ExtBut i1 k1 k2 := u2
  have z2 : IsZip k2 z TI TO .ellipsis := u2 _ _ (D.a1 _ D.m1).1.symm z1
  have nez : e ≠ z := fun c => by subst c; rw [z2] at h1; cases h1; simp at h2
  refine wpAny_setField_rec z2 (by simp) fun k3 z3 u3 => ?_
  refine wpAny_bind (wpAny_isInstance (b := true) (T := "StopIteration") ⟨oe, u3.extBut _ _ nez h1, h2⟩ isSubtype_stop ?_)
  exact wpAny_pure (q _ fun c o c1 _ c3 _ w => u3.extBut _ _ c1 (u2 _ _ c3 (u1.extBut _ _ c1 w)))
end
section
variable {X : Cx} {pins : List (Addr × Obj)} {σ : List (Option V)} {H : Hp} {s : Shared} {h' : Heap}
theorem turnedL {t' : Nat} {ch : List Addr} (I : Inv X pins σ H s) (k : ∀ b o, b ∉ ch → s.heap.get? b = some o → h'.get? b = some o) (f : ∀ b ∈ ch, FpOk X pins H b) : Inv X pins σ H { s with heap := h', toks := t' } := by
  have ne : ∀ b u, H b = some u → b ∉ ch := fun b u q z => by rw [(f b z).1] at q; cases q
  refine I.step (g' := s.gens) (d' := s.drawn) (ch := ch) (fun b hb => ⟨(f b hb).2.2.2.1, (f b hb).2.1, (f b hb).2.2.2.2.1, (f b hb).2.2.2.2.2⟩) (fun b o _ _ hc q _ => k b o hc q) (fun b o _ _ hc q _ => ⟨o.slots, k b o hc q⟩) (fun _ _ _ _ n => n)
    (fun b o hc q => ⟨o, k b o hc q⟩) (fun _ _ q => q) (fun _ _ _ q => q) (fun b ps q => ⟨#[], by rw [q]; simp⟩) ?_ ?_ I.bare
  · rintro m ⟨o, es, ep, ho, r⟩
    exact ⟨o, es, ep, k _ o (fun z => (f _ z).2.1 rfl) ho, r⟩
  · intro b u q
    refine (I.hok b u q).stay (fun c v hc z => k c v ?_ z) (fun _ z => z) fun _ _ z => z
    rcases hc with y | y
    · rw [y]; exact ne b u q
    · exact ne c _ y
end
def Itz (K : PySem.W.Frag) (t l : Addr) : It :=
  ⟨fun i H => ∃ xs ys x y, SqT K H t xs ∧ SqL K H l ys ∧ xs[i]? = some x ∧ ys[i]? = some y, fun i H v H' => ∃ p x y, H p = none ∧ v = .ref p ∧ H' = upd H p (.tup [x, y]) ∧ (∀ xs, SqT K H t xs → xs[i]? = some x) ∧ ∀ ys, SqL K H l ys → ys[i]? = some y, fun i H => ∃ xs ys, SqT K H t xs ∧ SqL K H l ys ∧ xs.length ≤ i⟩
theorem turn_zip {P : Program} {w : World} {K : PySem.W.Frag} {es : List Expr} {x1 : Nat} {tp : Pos} {t l z TI TO i1 i2 : Addr} (D : ZpA z TI TO i1 i2 [i1, t] [i2, l]) (n1 : t ≠ i1) (n2 : l ≠ i2) :
    Turn P w K (.Tuple es x1 tp) (Itz K t l) [z, TI, TO, i1, i2] z (fun i h => IsZip h z TI TO .none ∧ IsPair h TI (.ref i1) (.ref i2) ∧ (∃ a b, IsPair h TO a b) ∧ h.IsTupleIter i1 t i ∧ h.IsListIter i2 l i) where
  mem := by simp
  obj := by
    rintro i h ⟨hz, hI, ⟨a, b, hO⟩, ⟨o1, e1, c1, d1⟩, ⟨o2, e2, c2, d2⟩⟩ c hc
    simp only [List.mem_cons, List.not_mem_nil, or_false] at hc
    rcases hc with rfl | rfl | rfl | rfl | rfl
    · exact ⟨_, hz, fun v z => by cases z⟩
    · exact ⟨_, hI, fun v z => by cases z⟩
    · exact ⟨_, hO, fun v z => by cases z⟩
    · exact ⟨_, e1, fun v z => by rw [d1] at z; cases z⟩
    · exact ⟨_, e2, fun v z => by rw [d2] at z; cases z⟩
  keep := by
    rintro i h h' ⟨hz, hI, ⟨a, b, hO⟩, ⟨o1, e1, r1⟩, ⟨o2, e2, r2⟩⟩ k
    exact ⟨k z (by simp) _ hz, k TI (by simp) _ hI, ⟨a, b, k TO (by simp) _ hO⟩, ⟨o1, k i1 (by simp) _ e1, r1⟩, ⟨o2, k i2 (by simp) _ e2, r2⟩⟩
  item := by
    intro X hP hw hK hc i pins s σ H E I hf st hg
    subst hP hw hK
    obtain ⟨hz, hI, ⟨a, b, hO⟩, h1, h2⟩ := st
    obtain ⟨xs, ys, x, y, hT, hL, hx, hy⟩ := hg
    obtain ⟨its, rv, pT, hz1⟩ := I.tuple hT
    obtain ⟨jts, rw', pL, hz2⟩ := I.list hL
    obtain ⟨u, hu, ru⟩ := rv.get hx
    obtain ⟨v, hv, rv2⟩ := rw'.get hy
    have hT1 : s.heap.IsTuple t its.toArray := pT
    have i1z := (D.a1 _ D.m1).1
    have i1O := (D.a1 _ D.m1).2.1
    have i2z := (D.a2 _ D.m2).1
    have i2O := (D.a2 _ D.m2).2.1
    refine zp_item (gv_tup (xs := its.toArray) n1) (gv_list (xs := jts.toArray) n2) D hz hI hO ⟨h1, hT1⟩ ⟨h2, pL.isList⟩ (x := u) (y := v) (by simpa using hu) (by simpa using hv) fun k1 z1 o1 s1 s2 p1 g1 => ⟨_, rfl, ?_⟩
    refine wpAny_letOwnedTupleGo_zip z1 fun k2 z2 u2 => ?_
    replace u2 : Heap.SameBut z k1 k2 := u2
    have lz : z < s.heap.objs.size := Heap.lt_size hz
    have hp0 : H s.heap.objs.size = none := I.hok.fresh (Nat.le_refl _)
    have p2 : IsPair k2 s.heap.objs.size u v := u2.extBut _ _ (Nat.ne_of_gt lz) p1
    have I1 : Inv X pins σ (upd H s.heap.objs.size (.tup [x, y])) { s with heap := s.heap.push { cls := .type "tuple", data := .seq #[u, v] } } :=
      I.laid (t' := s.toks) (fun b v q => Heap.get?_push_of_some _ q) (Nat.le_refl _) ⟨by show 2 ≤ sizeLine; decide, [u, v], .cons ru (.cons rv2 .nil), ⟨_, Heap.get?_push_size _ rfl, rfl, _, rfl⟩⟩
    have lt : ∀ c ∈ [z, TI, TO, i1, i2], c < s.heap.objs.size := fun c hc => by
      simp only [List.mem_cons, List.not_mem_nil, or_false] at hc
      obtain ⟨o1, e1, _⟩ := h1
      obtain ⟨o2, e2, _⟩ := h2
      rcases hc with rfl | rfl | rfl | rfl | rfl
      · exact lz
      · exact Heap.lt_size hI
      · exact Heap.lt_size hO
      · exact Heap.lt_size e1
      · exact Heap.lt_size e2
    have off : ∀ c ∈ [z, TI, TO, i1, i2], FpOk X pins (upd H s.heap.objs.size (.tup [x, y])) c := fun c hc => ⟨by rw [upd_ne (Nat.ne_of_lt (lt c hc))]; exact (hf c hc).1, (hf c hc).2⟩
    have I2 : Inv X pins σ (upd H s.heap.objs.size (.tup [x, y])) { s with heap := k2 } := turnedL (s := { s with heap := s.heap.push { cls := .type "tuple", data := .seq #[u, v] } }) (t' := s.toks) (ch := [z, TI, TO, i1, i2]) I1 (fun c o nc q => by
      simp only [List.mem_cons, List.not_mem_nil, or_false, not_or] at nc
      replace q : (s.heap.push { cls := .type "tuple", data := .seq #[u, v] }).get? c = some o := q
      rcases Heap.get?_push_cases q with ⟨y1, y2⟩ | q'
      · subst y1; subst y2; exact p2
      · exact u2.extBut c o nc.1 (g1 c o nc.1 nc.2.2.1 nc.2.2.2.1 nc.2.2.2.2 q')) off
    refine ⟨.ref s.heap.objs.size, _, I2, rfl, ⟨_, x, y, hp0, rfl, rfl, fun xs' h' => by rw [I.tuple_inj h' hT]; exact hx, fun ys' h' => by rw [I.list_inj h' hL]; exact hy⟩, ⟨z2, u2.extBut _ _ D.TIz (g1 _ _ D.TIz D.TIO D.TI1 D.TI2 hI), ⟨_, _, u2.extBut _ _ D.TOz o1⟩, s1.1.extBut u2.extBut i1z, s2.1.extBut u2.extBut i2z⟩, fun c hc => (off c hc).1⟩
  done := by
    intro X hP hw hK hc i pins s σ H E I hf st hg
    subst hP hw hK
    obtain ⟨hz, hI, ⟨a, b, hO⟩, h1, h2⟩ := st
    obtain ⟨xs, ys, hT, hL, hx⟩ := hg
    obtain ⟨its, rv, pT, hz1⟩ := I.tuple hT
    obtain ⟨jts, rw', pL, hz2⟩ := I.list hL
    have hl := rv.length
    have hT1 : s.heap.IsTuple t its.toArray := pT
    refine zp_end (I.ok.hd hc) (gv_tup (xs := its.toArray) n1) (gv_list (xs := jts.toArray) n2) D hz hI hO ⟨h1, hT1⟩ ⟨h2, pL.isList⟩ (by simp; omega) fun k1 g1 => ⟨rfl, turnedL (t' := s.toks) (ch := [z, TI, TO, i1, i2]) I (fun c o nc q => ?_) hf⟩
    simp only [List.mem_cons, List.not_mem_nil, or_false, not_or] at nc
    exact g1 c o nc.1 nc.2.2.1 nc.2.2.2.1 nc.2.2.2.2 q
  self := fun _ _ _ _ _ ⟨hz, _⟩ h => wpAny_pyIter_zip hz h
section
variable {prog : Program} {w : World} {A : Around} {E : Value → Shared → Prop} {s : Shared}
theorem zp_new {t l : Addr} {xs ys : Array Value} {Q : Value → Shared → Prop} (ht : s.heap.IsTuple t xs) (hl : s.heap.IsList l ys)
    (q : ∀ h' z TI TO i1 i2, s.heap.objs.size = i1 → i2 = i1 + 1 → TI = i1 + 2 → TO = i1 + 3 → z = i1 + 4 → IsZip h' z TI TO .none → IsPair h' TI (.ref i1) (.ref i2) → IsPair h' TO .none .none → h'.IsTupleIter i1 t 0 → h'.IsListIter i2 l 0 → (∀ c o, s.heap.get? c = some o → h'.get? c = some o) → Q (.ref z) { s with heap := h' }) :
    wpAny (model prog w) A (call (.type "zip") [.ref t, .ref l]) Q E s := by
  refine callType_new PySem.F.called_zip (by decide) (PySem.F.typeCall_zip_2 _ _) (PySem.F.newCall_zip_2 _ _) (fun obj => PySem.F.args_object_init_3 obj _ _) PySem.F.entry_zip_new (S := fun _ R s => s.heap.IsTuple t xs ∧ s.heap.IsList l ys ∧ ∀ h', h' = ((((s.heap.push { cls := .type "tuple_iterator", data := .fields #[.ref t, .int 0 0] }).push { cls := .type "list_iterator", data := .fields #[.ref l, .int 0 0] }).push { cls := .type "tuple", data := .seq #[.ref s.heap.objs.size, .ref (s.heap.objs.size + 1)] }).push { cls := .type "tuple", data := .seq #[.none, .none] }).push { cls := .type "zip", data := .fields #[.none, .bool false, .bool false, .ref (s.heap.objs.size + 2), .ref (s.heap.objs.size + 3)] } → R (.ok (.ret (.ref (s.heap.objs.size + 4)))) { s with heap := h' }) ?_ ⟨ht, hl, fun h' e => ?_⟩
  · refine .of_wp fun prog w A R s h => ?_
    obtain ⟨hp, g, d, tk, os⟩ := s
    obtain ⟨h1, h2, h⟩ := h
    have hsub := PySem.sub_zip
    have L1 : Heap.IsTuple (Shared.heap ⟨hp, g, d, tk, os⟩) t xs := h1
    have L2 : Heap.IsList (Shared.heap ⟨hp.push { cls := .type "tuple_iterator", data := .fields #[.ref t, .int 0 0] }, g, d, tk, os⟩) l ys := Heap.IsList.push h2 _
    wp_walk using wpAny_pyIter_tuple L1, wpAny_pyIter_list L2
    refine ⟨_, rfl, ?_⟩
    have h' := h _ rfl
    simp [Heap.size_push]
    exact h'
  · obtain ⟨k1, e1⟩ : ∃ k, k = s.heap.push { cls := .type "tuple_iterator", data := .fields #[.ref t, .int 0 0] } := ⟨_, rfl⟩
    obtain ⟨k2, e2⟩ : ∃ k, k = k1.push { cls := .type "list_iterator", data := .fields #[.ref l, .int 0 0] } := ⟨_, rfl⟩
    obtain ⟨k3, e3⟩ : ∃ k, k = k2.push { cls := .type "tuple", data := .seq #[.ref s.heap.objs.size, .ref (s.heap.objs.size + 1)] } := ⟨_, rfl⟩
    obtain ⟨k4, e4⟩ : ∃ k, k = k3.push { cls := .type "tuple", data := .seq #[.none, .none] } := ⟨_, rfl⟩
    rw [← e1, ← e2, ← e3, ← e4] at e
    have c1 : k1.objs.size = s.heap.objs.size + 1 := by rw [e1]; exact Heap.size_push ..
    have c2 : k2.objs.size = s.heap.objs.size + 2 := by rw [e2, Heap.size_push, c1]
    have c3 : k3.objs.size = s.heap.objs.size + 3 := by rw [e3, Heap.size_push, c2]
    have c4 : k4.objs.size = s.heap.objs.size + 4 := by rw [e4, Heap.size_push, c3]
    have u4 : ∀ c o, k4.get? c = some o → h'.get? c = some o := fun c o z => by rw [e]; exact Heap.get?_push_of_some _ z
    have u3 : ∀ c o, k3.get? c = some o → h'.get? c = some o := fun c o z => u4 c o (by rw [e4]; exact Heap.get?_push_of_some _ z)
    have u2 : ∀ c o, k2.get? c = some o → h'.get? c = some o := fun c o z => u3 c o (by rw [e3]; exact Heap.get?_push_of_some _ z)
    have u1 : ∀ c o, k1.get? c = some o → h'.get? c = some o := fun c o z => u2 c o (by rw [e2]; exact Heap.get?_push_of_some _ z)
    have u0 : ∀ c o, s.heap.get? c = some o → h'.get? c = some o := fun c o z => u1 c o (by rw [e1]; exact Heap.get?_push_of_some _ z)
    have G1 := u1 s.heap.objs.size _ (by rw [e1]; exact Heap.get?_push_size _ rfl)
    have G2 := u2 (s.heap.objs.size + 1) _ (by rw [e2, ← c1]; exact Heap.get?_push_size _ rfl)
    have G3 := u3 (s.heap.objs.size + 2) _ (by rw [e3, ← c2]; exact Heap.get?_push_size _ rfl)
    have G4 := u4 (s.heap.objs.size + 3) _ (by rw [e4, ← c3]; exact Heap.get?_push_size _ rfl)
    have G5 : h'.get? (s.heap.objs.size + 4) = some { cls := .type "zip", data := .fields #[.none, .bool false, .bool false, .ref (s.heap.objs.size + 2), .ref (s.heap.objs.size + 3)] } := by rw [e, ← c4]; exact Heap.get?_push_size _ rfl
    exact ⟨⟨_, G5, rfl⟩, q h' _ _ _ _ _ rfl rfl rfl rfl rfl G5 G3 G4 ⟨_, G1, rfl, rfl⟩ ⟨_, G2, rfl, rfl⟩ u0⟩
end
section
variable {X : Cx}
def iZip (K : PySem.W.Frag) (ta : TA) : TI := fun σ H R => ta σ H fun vs H1 => ∃ t l, vs = [.ref t, .ref l] ∧ (∃ xs, SqT K H1 t xs) ∧ (∃ ys, SqL K H1 l ys) ∧ R (Itz K t l) H1
theorem pi_zip {a b : Expr} {ta : TA} {p pos tp : Pos} {es : List Expr} {x1 : Nat} (hg : Gl X "zip") (hm : X.mg "zip" = none) (ha : PA X [a, b] ta) (hs : starEach [a, b] X.env = (false, eval a X.env) :: starEach [b] X.env := by rfl) (hp : (backTo pos (starEach [b] X.env)).any (·.1) = false := by rfl) :
    PI X (.Tuple es x1 tp) (.Call (.Name "zip" p) [a, b] [] pos) (iZip X.K ta) := by
  intro pins s σ H R I h
  refine Call_ (ld_blt I hg hm boot_zip (PyProof.Rows.callWith_type1 (thn (ha pos pins s σ H _ I h) fun us s1 ⟨vs, H1, I1, r1, q1⟩ => ?_) hs hp))
  obtain ⟨t, l, rfl, ⟨xs, hT⟩, ⟨ys, hL⟩, q⟩ := q1
  cases r1 with
  | cons r rr =>
    cases r
    cases rr with
    | cons r rr =>
      cases rr
      cases r
      obtain ⟨its, rv, pT, _⟩ := I1.tuple hT
      obtain ⟨jts, rw', pL, _⟩ := I1.list hL
      have hT1 : s1.heap.IsTuple t its.toArray := pT
      have lt : t < s1.heap.objs.size := by obtain ⟨o, e, _⟩ := hT1; exact Heap.lt_size e
      have ll : l < s1.heap.objs.size := by obtain ⟨o, e, _⟩ := pL.isList; exact Heap.lt_size e
      refine zp_new hT1 pL.isList fun h' z TI TO i1 i2 d1 d2 d3 d4 d5 hz hI hO h1 h2 kp => ?_
      refine wpAny_pyIter_zip hz ?_
      have ne : ∀ {a b : Nat}, ¬ (a = b) → a ≠ b := fun h => h
      have lN : ∀ {a b : Nat}, a < b → a < b := fun h => h
      have lt := lN lt
      have ll := lN ll
      have D : ZpA z TI TO i1 i2 [i1, t] [i2, l] := by
        refine ⟨ne (by omega), ne (by omega), ne (by omega), ne (by omega), ne (by omega), by simp, by simp, fun c hc => ?_, fun c hc => ?_⟩
        · simp only [List.mem_cons, List.not_mem_nil, or_false] at hc
          rcases hc with hc | hc <;> rw [hc] <;> exact ⟨ne (by omega), ne (by omega), ne (by omega)⟩
        · simp only [List.mem_cons, List.not_mem_nil, or_false] at hc
          rcases hc with hc | hc <;> rw [hc] <;> exact ⟨ne (by omega), ne (by omega), ne (by omega)⟩
      have n1 : t ≠ i1 := ne (by omega)
      have n2 : l ≠ i2 := ne (by omega)
      refine ⟨_, [z, TI, TO, i1, i2], _, _, H1, rfl, I1.kept (t' := s1.toks) kp, turn_zip (t := t) (l := l) D n1 n2, ⟨hz, hI, ⟨_, _, hO⟩, h1, h2⟩, fun c hc => ?_, q⟩
      · have hb : s1.heap.objs.size ≤ c := by
          simp only [List.mem_cons, List.not_mem_nil, or_false] at hc
          have le : ∀ {a b : Nat}, a ≤ b → a ≤ b := fun h => h
          rcases hc with hc | hc | hc | hc | hc <;> rw [hc] <;> exact le (by omega)
        exact I1.fpOk hb (I1.hok.fresh hb)
end
theorem for_zip {K : PySem.W.Frag} {t l : Addr} {xs ys : List V} {g : TG} {tb : TS} {D : Ends} {σ : L2.St} {H : Hp} (hlen : xs.length ≤ ys.length) (Pv : Nat → L2.St → Hp → Prop) (h0 : Pv 0 σ H) (hl : ∀ i σ H, i ≤ xs.length → Pv i σ H → SqT K H t xs ∧ SqL K H l ys)
    (hs : ∀ i x y p σ H, xs[i]? = some x → ys[i]? = some y → Pv i σ H → H p = none → g (.ref p) σ (upd H p (.tup [x, y])) fun σ2 H2 => tb { D with nx := Pv (i + 1), ct := Pv (i + 1), bk := D.nx } σ2 H2) (hd : ∀ σ H, Pv xs.length σ H → D.nx σ H) :
    ∃ W : Nat → Nat → L2.St → Hp → Prop, (∃ m, W 0 m σ H) ∧ ∀ i m σ H, W i m σ H →
      ((Itz K t l).stop i H ∧ D.nx σ H) ∨ ((Itz K t l).go i H ∧ ∃ N : L2.St → Hp → Prop, (∀ σ' H', N σ' H' → ∃ m', m' < m ∧ W (i + 1) m' σ' H') ∧ ∀ x H', (Itz K t l).yld i H x H' → g x σ H' fun σ2 H2 => tb { D with nx := N, ct := N, bk := D.nx } σ2 H2) := by
  refine ⟨fun i m σ H => m = xs.length - i ∧ i ≤ xs.length ∧ Pv i σ H, ⟨xs.length, by simp, Nat.zero_le _, h0⟩, ?_⟩
  rintro i m σ H ⟨rfl, hi, p⟩
  obtain ⟨q1, q2⟩ := hl i σ H hi p
  by_cases hlt : i < xs.length
  · have hlt2 : i < ys.length := by omega
    refine .inr ⟨⟨xs, ys, xs[i], ys[i], q1, q2, by simp [hlt], by simp [hlt2]⟩, Pv (i + 1), fun σ' H' p' => ⟨xs.length - (i + 1), by omega, rfl, hlt, p'⟩, fun x H' y => ?_⟩
    obtain ⟨b, u, v, hb, rfl, rfl, y1, y2⟩ := y
    exact hs i u v b σ H (y1 xs q1) (y2 ys q2) p hb
  · have e : i = xs.length := by omega
    subst e
    exact .inl ⟨⟨xs, ys, q1, q2, Nat.le_refl _⟩, hd σ H p⟩
end L3

/-! the fragment named outright, everywhere: the readings are shorter so. -/
namespace L3
open PySem PySem.Spec PyProof.Rows L2
theorem kPI {X : Cx} {K : PySem.W.Frag} {tg it : Expr} (f : PySem.W.Frag → TI) (h : PI X tg it (f X.K)) (e : X.K = K := by rfl) : PI X tg it (f K) := e ▸ h
theorem kPE {X : Cx} {K : PySem.W.Frag} {ex : Expr} (f : PySem.W.Frag → TE) (h : PE X ex (f X.K)) (e : X.K = K := by rfl) : PE X ex (f K) := e ▸ h
theorem kPG {X : Cx} {K : PySem.W.Frag} {tg : Expr} (f : PySem.W.Frag → TG) (h : PG X tg (f X.K)) (e : X.K = K := by rfl) : PG X tg (f K) := e ▸ h
theorem kCall {X : Cx} {K : PySem.W.Frag} {f : Value} (r : PySem.W.Frag → List V → Hp → VK → Prop) (h : CallR X f (r X.K)) (e : X.K = K := by rfl) : CallR X f (r K) := e ▸ h
def rLo (K : PySem.W.Frag) : List V → Hp → VK → Prop := fun xs H Q => ∃ p ys, xs = [.ref p] ∧ (SqL K H p ys ∨ SqT K H p ys) ∧ ∀ l, H l = none → Q (.ref l) (upd H l (.lst ys))
def rIs (K : PySem.W.Frag) : List V → Hp → VK → Prop := fun xs H Q => ∃ x T t b, xs = [x, .ty T] ∧ TyOf K H x t ∧ PySem.W.kitOne K t (.type T) = some b ∧ Q (.bl b) H
def rIsX (K : PySem.W.Frag) : List V → Hp → VK → Prop := fun xs H Q => ∃ x C y u b, xs = [.ref x, y] ∧ H x = some (Exc x C) ∧ XCls K C ∧ clsV y = some u ∧ PySem.W.kitOne K (.ref C) u = some b ∧ Q (.bl b) H
def rIsD (K : PySem.W.Frag) : List V → Hp → VK → Prop := fun xs H Q => ∃ x d T, xs = [x, .ty T] ∧ Rep K H d x ∧ (T = "tuple" ∨ T = "int" ∨ T = "bool" ∨ T = "str" ∨ T = "list") ∧ Q (.bl (isT d T)) H
end L3

namespace My
open PySem PySem.Spec PyProof.Rows L2 L3
def top (i : Nat) : Stmt := PySem.Challenge.pw_earlyscribe_k86_refused_texts.main.body.getD i (.Pass ⟨0, 0, 0, 0⟩)
end My
lay_quick PySem.Challenge.pw_earlyscribe_k86_refused_texts
namespace My
open PySem PySem.W PyProof.Rows L2 L3
abbrev fob (x : Str) (st : Stmt) (oc : Value) (od : Option Addr) (kV dc pm : Value) (an : Option Addr) (cd ct : Value) (sl : Array (Option Value)) : Obj := ⟨oc, od, .func (fnOf x x (defArgs st) (defBody st) (defScope st) .none kV dc pm an cd ct), sl⟩
abbrev de (P : Params) (x : Str) (t : Tok) (v : Value) : DictEntry := ⟨PySem.PyData.keyHash P x, .str x t, v⟩
abbrev cob (x : Str) (a b c : Tok) (l n : Int) (r r2 v1 v2 v3 v4 : Value) (n6 : Int) (c2 : Tok) : Obj := ⟨.type "code", none, .fields #[.str x a, .str x b, .str "/claim/cut.py" c, .int l 0, .int n 0, .int 0 0, .int 0 0, .int 3 0, r, .bool true, .int 181 0, r2, v1, v2, v3, v4, .int n6 0, .int l 0, .str "/claim/cut.py" c2], #[]⟩
noncomputable def ko2 (P : Params) : Obj := ⟨.none, none, (.dict #[] 0), #[]⟩
noncomputable def ko3 (P : Params) : Obj := ⟨(.type "dict"), none, (.dict #[de P "__name__" 165 (.str "law_earlyscribe_k86_refused_texts" 534), de P "__doc__" 166 .none, de P "__package__" 167 .none, de P "__loader__" 168 (.builtin "__main__.__loader__#opaque"), de P "__spec__" 169 .none, de P "__annotations__" 170 (.ref 6), de P "__builtins__" 171 (.ref 4), de P "__file__" 173 (.str "/claim/cut.py" 172), de P "__cached__" 174 .none, de P "ScribeError" 206 (.ref 24), de P "NoWay" 222 (.ref 37), de P "NoRoom" 238 (.ref 49), de P "NotPlain" 254 (.ref 61), de P "OtherSigns" 270 (.ref 73), de P "TooMany" 286 (.ref 85), de P "TwoWays" 311 (.ref 104), de P "NeverPlain" 338 (.ref 123), de P "NoText" 354 (.ref 135), de P "SIGNS" 358 (.int 0 357), de P "ROOMS" 360 (.int 1 359), de P "BEGINS" 362 (.int 2 361), de P "STEPS" 364 (.int 3 363), de P "ENDS" 366 (.int 4 365), de P "MOST_ROOMS" 368 (.int 200 367), de P "is_tuple_of" 376 (.ref 144), de P "is_number_below" 384 (.ref 151), de P "is_word" 391 (.ref 158), de P "all_unlike" 398 (.ref 165), de P "are_signs" 405 (.ref 172), de P "is_mark" 413 (.ref 179), de P "is_step" 422 (.ref 186), de P "are_marks" 428 (.ref 191), de P "are_steps" 434 (.ref 196), de P "is_scribe" 443 (.ref 203), de P "EMPTY_WORD" 447 (.str "-" 446), de P "shown_word" 454 (.ref 210), de P "shown_mark" 462 (.ref 217), de P "shown_step" 469 (.ref 224), de P "shown_scribe" 475 (.ref 229), de P "read_parts" 484 (.ref 236), de P "read_number" 490 (.ref 241), de P "read_word" 497 (.ref 248), de P "read_mark" 505 (.ref 255), de P "read_step" 513 (.ref 262), de P "read_rows" 525 (.ref 269), de P "read_scribe" 533 (.ref 276), de P "_law_cell_at" 543 (.ref 283), de P "_law_whole" 550 (.ref 290), de P "_law_mixed" 559 (.ref 297), de P "_law_word" 570 (.ref 304), de P "_law_signs" 576 (.ref 309), de P "_law_rest" 587 (.ref 316), de P "_law_choices" 605 (.ref 323), de P "_law_is_scribe" 616 (.ref 330), de P "_law_shown" 630 (.ref 337), de P "_law_alone" 636 (.ref 342), de P "_law_signs_bent" 649 (.ref 349), de P "_law_rows_bent" 662 (.ref 356), de P "_law_long" 673 (.ref 363), de P "_law_number" 682 (.ref 370), de P "_law_letters" 688 (.ref 375), de P "_law_pair" 697 (.ref 382), de P "_law_row" 710 (.ref 389), de P "_law_reader" 724 (.ref 396), de P "law" 739 (.ref 403)] 65), #[]⟩
noncomputable def ko23 (P : Params) : Obj := ⟨(.type "dict"), none, (.dict #[de P "__module__" 196 (.str "earlyscribe.errors" 187), de P "__firstlineno__" 200 (.int 2 199), de P "__static_attributes__" 201 (.ref 22), de P "__weakref__" 203 (.ref 25), de P "__doc__" 204 .none] 3), #[]⟩
noncomputable def ko24 (P : Params) : Obj := ⟨(.type "type"), none, (.cls ⟨"ScribeError", [(.type "ValueError")], [(.ref 24), (.type "ValueError"), (.type "Exception"), (.type "BaseException"), (.type "object")], 23, "ScribeError", true, [], [(.ref 37), (.ref 49), (.ref 61), (.ref 73), (.ref 85), (.ref 104), (.ref 123), (.ref 135)], false, none, false⟩), #[(some (.ref 15)), none, (some (.str "ScribeError" 189)), (some (.str "ScribeError" 197)), (some (.builtin "ValueError.__new__")), (some (.bool true))]⟩
noncomputable def ko36 (P : Params) : Obj := ⟨(.type "dict"), none, (.dict #[de P "__module__" 214 (.str "earlyscribe.errors" 187), de P "__firstlineno__" 218 (.int 4 217), de P "__static_attributes__" 219 (.ref 35), de P "__doc__" 220 .none] 2), #[]⟩
noncomputable def ko37 (P : Params) : Obj := ⟨(.type "type"), none, (.cls ⟨"NoWay", [(.ref 24)], [(.ref 37), (.ref 24), (.type "ValueError"), (.type "Exception"), (.type "BaseException"), (.type "object")], 36, "NoWay", true, [], [], false, none, false⟩), #[(some (.ref 28)), none, (some (.str "NoWay" 207)), (some (.str "NoWay" 215)), (some (.builtin "ValueError.__new__")), (some (.bool true))]⟩
noncomputable def ko48 (P : Params) : Obj := ⟨(.type "dict"), none, (.dict #[de P "__module__" 230 (.str "earlyscribe.errors" 187), de P "__firstlineno__" 234 (.int 6 233), de P "__static_attributes__" 235 (.ref 47), de P "__doc__" 236 .none] 2), #[]⟩
noncomputable def ko49 (P : Params) : Obj := ⟨(.type "type"), none, (.cls ⟨"NoRoom", [(.ref 24)], [(.ref 49), (.ref 24), (.type "ValueError"), (.type "Exception"), (.type "BaseException"), (.type "object")], 48, "NoRoom", true, [], [], false, none, false⟩), #[(some (.ref 40)), none, (some (.str "NoRoom" 223)), (some (.str "NoRoom" 231)), (some (.builtin "ValueError.__new__")), (some (.bool true))]⟩
noncomputable def ko60 (P : Params) : Obj := ⟨(.type "dict"), none, (.dict #[de P "__module__" 246 (.str "earlyscribe.errors" 187), de P "__firstlineno__" 250 (.int 8 249), de P "__static_attributes__" 251 (.ref 59), de P "__doc__" 252 .none] 2), #[]⟩
noncomputable def ko61 (P : Params) : Obj := ⟨(.type "type"), none, (.cls ⟨"NotPlain", [(.ref 24)], [(.ref 61), (.ref 24), (.type "ValueError"), (.type "Exception"), (.type "BaseException"), (.type "object")], 60, "NotPlain", true, [], [], false, none, false⟩), #[(some (.ref 52)), none, (some (.str "NotPlain" 239)), (some (.str "NotPlain" 247)), (some (.builtin "ValueError.__new__")), (some (.bool true))]⟩
noncomputable def ko72 (P : Params) : Obj := ⟨(.type "dict"), none, (.dict #[de P "__module__" 262 (.str "earlyscribe.errors" 187), de P "__firstlineno__" 266 (.int 10 265), de P "__static_attributes__" 267 (.ref 71), de P "__doc__" 268 .none] 2), #[]⟩
noncomputable def ko73 (P : Params) : Obj := ⟨(.type "type"), none, (.cls ⟨"OtherSigns", [(.ref 24)], [(.ref 73), (.ref 24), (.type "ValueError"), (.type "Exception"), (.type "BaseException"), (.type "object")], 72, "OtherSigns", true, [], [], false, none, false⟩), #[(some (.ref 64)), none, (some (.str "OtherSigns" 255)), (some (.str "OtherSigns" 263)), (some (.builtin "ValueError.__new__")), (some (.bool true))]⟩
noncomputable def ko84 (P : Params) : Obj := ⟨(.type "dict"), none, (.dict #[de P "__module__" 278 (.str "earlyscribe.errors" 187), de P "__firstlineno__" 282 (.int 12 281), de P "__static_attributes__" 283 (.ref 83), de P "__doc__" 284 .none] 2), #[]⟩
noncomputable def ko85 (P : Params) : Obj := ⟨(.type "type"), none, (.cls ⟨"TooMany", [(.ref 24)], [(.ref 85), (.ref 24), (.type "ValueError"), (.type "Exception"), (.type "BaseException"), (.type "object")], 84, "TooMany", true, [], [], false, none, false⟩), #[(some (.ref 76)), none, (some (.str "TooMany" 271)), (some (.str "TooMany" 279)), (some (.builtin "ValueError.__new__")), (some (.bool true))]⟩
noncomputable def ko103 (P : Params) : Obj := ⟨(.type "dict"), none, (.dict #[de P "__module__" 294 (.str "earlyscribe.errors" 187), de P "__firstlineno__" 298 (.int 14 297), de P "__init__" 306 (.ref 101), de P "__static_attributes__" 308 (.ref 102), de P "__doc__" 309 .none] 2), #[]⟩
noncomputable def ko104 (P : Params) : Obj := ⟨(.type "type"), none, (.cls ⟨"TwoWays", [(.ref 24)], [(.ref 104), (.ref 24), (.type "ValueError"), (.type "Exception"), (.type "BaseException"), (.type "object")], 103, "TwoWays", true, [], [], false, none, false⟩), #[(some (.ref 88)), none, (some (.str "TwoWays" 287)), (some (.str "TwoWays" 295)), (some (.builtin "ValueError.__new__")), (some (.bool true))]⟩
noncomputable def ko122 (P : Params) : Obj := ⟨(.type "dict"), none, (.dict #[de P "__module__" 319 (.str "earlyscribe.errors" 187), de P "__firstlineno__" 323 (.int 19 322), de P "__init__" 332 (.ref 120), de P "__static_attributes__" 335 (.ref 121), de P "__doc__" 336 .none] 2), #[]⟩
noncomputable def ko123 (P : Params) : Obj := ⟨(.type "type"), none, (.cls ⟨"NeverPlain", [(.ref 24)], [(.ref 123), (.ref 24), (.type "ValueError"), (.type "Exception"), (.type "BaseException"), (.type "object")], 122, "NeverPlain", true, [], [], false, none, false⟩), #[(some (.ref 107)), none, (some (.str "NeverPlain" 312)), (some (.str "NeverPlain" 320)), (some (.builtin "ValueError.__new__")), (some (.bool true))]⟩
noncomputable def ko134 (P : Params) : Obj := ⟨(.type "dict"), none, (.dict #[de P "__module__" 346 (.str "earlyscribe.errors" 187), de P "__firstlineno__" 350 (.int 25 349), de P "__static_attributes__" 351 (.ref 133), de P "__doc__" 352 .none] 2), #[]⟩
noncomputable def ko135 (P : Params) : Obj := ⟨(.type "type"), none, (.cls ⟨"NoText", [(.ref 24)], [(.ref 135), (.ref 24), (.type "ValueError"), (.type "Exception"), (.type "BaseException"), (.type "object")], 134, "NoText", true, [], [], false, none, false⟩), #[(some (.ref 126)), none, (some (.str "NoText" 339)), (some (.str "NoText" 347)), (some (.builtin "ValueError.__new__")), (some (.bool true))]⟩
noncomputable def ko143 (P : Params) : Obj := cob "is_tuple_of" 369 370 371 34 2 (.ref 138) (.ref 139) .none (.ref 140) (.ref 141) (.ref 142) 374 375
noncomputable def ko144 (P : Params) : Obj := fob "is_tuple_of" (top 17) (.type "function") none .none .none (.str "earlyscribe.scribes" 355) none (.ref 143) .none #[]
noncomputable def ko150 (P : Params) : Obj := cob "is_number_below" 377 378 379 36 2 (.ref 145) (.ref 146) .none (.ref 147) (.ref 148) (.ref 149) 382 383
noncomputable def ko151 (P : Params) : Obj := fob "is_number_below" (top 18) (.type "function") none .none .none (.str "earlyscribe.scribes" 355) none (.ref 150) .none #[]
noncomputable def ko157 (P : Params) : Obj := cob "is_word" 385 386 387 40 1 (.ref 152) (.ref 153) .none (.ref 154) (.ref 155) (.ref 156) 389 390
noncomputable def ko158 (P : Params) : Obj := fob "is_word" (top 19) (.type "function") none .none .none (.str "earlyscribe.scribes" 355) none (.ref 157) .none #[]
noncomputable def ko164 (P : Params) : Obj := cob "all_unlike" 392 393 394 44 1 (.ref 159) (.ref 160) .none (.ref 161) (.ref 162) (.ref 163) 396 397
noncomputable def ko165 (P : Params) : Obj := fob "all_unlike" (top 20) (.type "function") none .none .none (.str "earlyscribe.scribes" 355) none (.ref 164) .none #[]
noncomputable def ko171 (P : Params) : Obj := cob "are_signs" 399 400 401 46 1 (.ref 166) (.ref 167) .none (.ref 168) (.ref 169) (.ref 170) 403 404
noncomputable def ko172 (P : Params) : Obj := fob "are_signs" (top 21) (.type "function") none .none .none (.str "earlyscribe.scribes" 355) none (.ref 171) .none #[]
noncomputable def ko178 (P : Params) : Obj := cob "is_mark" 406 407 408 48 2 (.ref 173) (.ref 174) .none (.ref 175) (.ref 176) (.ref 177) 411 412
noncomputable def ko179 (P : Params) : Obj := fob "is_mark" (top 22) (.type "function") none .none .none (.str "earlyscribe.scribes" 355) none (.ref 178) .none #[]
noncomputable def ko185 (P : Params) : Obj := cob "is_step" 414 415 416 50 3 (.ref 180) (.ref 181) .none (.ref 182) (.ref 183) (.ref 184) 420 421
noncomputable def ko186 (P : Params) : Obj := fob "is_step" (top 23) (.type "function") none .none .none (.str "earlyscribe.scribes" 355) none (.ref 185) .none #[]
noncomputable def ko190 (P : Params) : Obj := cob "are_marks" 423 424 425 58 2 (.ref 187) (.ref 188) .none .none .none (.ref 189) 426 427
noncomputable def ko191 (P : Params) : Obj := fob "are_marks" (top 24) (.type "function") none .none .none (.str "earlyscribe.scribes" 355) none (.ref 190) .none #[]
noncomputable def ko195 (P : Params) : Obj := cob "are_steps" 429 430 431 62 3 (.ref 192) (.ref 193) .none .none .none (.ref 194) 432 433
noncomputable def ko196 (P : Params) : Obj := fob "are_steps" (top 25) (.type "function") none .none .none (.str "earlyscribe.scribes" 355) none (.ref 195) .none #[]
noncomputable def ko202 (P : Params) : Obj := cob "is_scribe" 435 436 437 66 1 (.ref 197) (.ref 198) .none (.ref 199) (.ref 200) (.ref 201) 441 442
noncomputable def ko203 (P : Params) : Obj := fob "is_scribe" (top 26) (.type "function") none .none .none (.str "earlyscribe.scribes" 355) none (.ref 202) .none #[]
noncomputable def ko209 (P : Params) : Obj := cob "shown_word" 448 449 450 78 1 (.ref 204) (.ref 205) .none (.ref 206) (.ref 207) (.ref 208) 452 453
noncomputable def ko210 (P : Params) : Obj := fob "shown_word" (top 29) (.type "function") none .none .none (.str "earlyscribe.texts" 444) none (.ref 209) .none #[]
noncomputable def ko216 (P : Params) : Obj := cob "shown_mark" 455 456 457 80 2 (.ref 211) (.ref 212) .none (.ref 213) (.ref 214) (.ref 215) 460 461
noncomputable def ko217 (P : Params) : Obj := fob "shown_mark" (top 30) (.type "function") none .none .none (.str "earlyscribe.texts" 444) none (.ref 216) .none #[]
noncomputable def ko223 (P : Params) : Obj := cob "shown_step" 463 464 465 82 1 (.ref 218) (.ref 219) .none (.ref 220) (.ref 221) (.ref 222) 467 468
noncomputable def ko224 (P : Params) : Obj := fob "shown_step" (top 31) (.type "function") none .none .none (.str "earlyscribe.texts" 444) none (.ref 223) .none #[]
noncomputable def ko228 (P : Params) : Obj := cob "shown_scribe" 470 471 472 84 1 (.ref 225) (.ref 226) .none .none .none (.ref 227) 473 474
noncomputable def ko229 (P : Params) : Obj := fob "shown_scribe" (top 32) (.type "function") none .none .none (.str "earlyscribe.texts" 444) none (.ref 228) .none #[]
noncomputable def ko235 (P : Params) : Obj := cob "read_parts" 476 477 478 90 2 (.ref 230) (.ref 231) .none (.ref 232) (.ref 233) (.ref 234) 482 483
noncomputable def ko236 (P : Params) : Obj := fob "read_parts" (top 33) (.type "function") none .none .none (.str "earlyscribe.texts" 444) none (.ref 235) .none #[]
noncomputable def ko240 (P : Params) : Obj := cob "read_number" 485 486 487 95 1 (.ref 237) (.ref 238) .none .none .none (.ref 239) 488 489
noncomputable def ko241 (P : Params) : Obj := fob "read_number" (top 34) (.type "function") none .none .none (.str "earlyscribe.texts" 444) none (.ref 240) .none #[]
noncomputable def ko247 (P : Params) : Obj := cob "read_word" 491 492 493 101 1 (.ref 242) (.ref 243) .none (.ref 244) (.ref 245) (.ref 246) 495 496
noncomputable def ko248 (P : Params) : Obj := fob "read_word" (top 35) (.type "function") none .none .none (.str "earlyscribe.texts" 444) none (.ref 247) .none #[]
noncomputable def ko254 (P : Params) : Obj := cob "read_mark" 498 499 500 103 1 (.ref 249) (.ref 250) .none (.ref 251) (.ref 252) (.ref 253) 503 504
noncomputable def ko255 (P : Params) : Obj := fob "read_mark" (top 36) (.type "function") none .none .none (.str "earlyscribe.texts" 444) none (.ref 254) .none #[]
noncomputable def ko261 (P : Params) : Obj := cob "read_step" 506 507 508 106 1 (.ref 256) (.ref 257) .none (.ref 258) (.ref 259) (.ref 260) 511 512
noncomputable def ko262 (P : Params) : Obj := fob "read_step" (top 37) (.type "function") none .none .none (.str "earlyscribe.texts" 444) none (.ref 261) .none #[]
noncomputable def ko268 (P : Params) : Obj := cob "read_rows" 514 515 516 109 1 (.ref 263) (.ref 264) .none (.ref 265) (.ref 266) (.ref 267) 523 524
noncomputable def ko269 (P : Params) : Obj := fob "read_rows" (top 38) (.type "function") none .none .none (.str "earlyscribe.texts" 444) none (.ref 268) .none #[]
noncomputable def ko275 (P : Params) : Obj := cob "read_scribe" 526 527 528 122 1 (.ref 270) (.ref 271) .none (.ref 272) (.ref 273) (.ref 274) 531 532
noncomputable def ko276 (P : Params) : Obj := fob "read_scribe" (top 39) (.type "function") none .none .none (.str "earlyscribe.texts" 444) none (.ref 275) .none #[]
noncomputable def ko282 (P : Params) : Obj := cob "_law_cell_at" 536 537 538 128 2 (.ref 277) (.ref 278) .none (.ref 279) (.ref 280) (.ref 281) 541 542
noncomputable def ko283 (P : Params) : Obj := fob "_law_cell_at" (top 41) (.type "function") none .none .none (.str "law_earlyscribe_k86_refused_texts" 534) none (.ref 282) .none #[]
noncomputable def ko289 (P : Params) : Obj := cob "_law_whole" 544 545 546 132 1 (.ref 284) (.ref 285) .none (.ref 286) (.ref 287) (.ref 288) 548 549
noncomputable def ko290 (P : Params) : Obj := fob "_law_whole" (top 42) (.type "function") none .none .none (.str "law_earlyscribe_k86_refused_texts" 534) none (.ref 289) .none #[]
noncomputable def ko296 (P : Params) : Obj := cob "_law_mixed" 551 552 553 134 2 (.ref 291) (.ref 292) .none (.ref 293) (.ref 294) (.ref 295) 557 558
noncomputable def ko297 (P : Params) : Obj := fob "_law_mixed" (top 43) (.type "function") none .none .none (.str "law_earlyscribe_k86_refused_texts" 534) none (.ref 296) .none #[]
noncomputable def ko303 (P : Params) : Obj := cob "_law_word" 560 561 562 138 1 (.ref 298) (.ref 299) .none (.ref 300) (.ref 301) (.ref 302) 568 569
noncomputable def ko304 (P : Params) : Obj := fob "_law_word" (top 44) (.type "function") none .none .none (.str "law_earlyscribe_k86_refused_texts" 534) none (.ref 303) .none #[]
noncomputable def ko308 (P : Params) : Obj := cob "_law_signs" 571 572 573 150 1 (.ref 305) (.ref 306) .none .none .none (.ref 307) 574 575
noncomputable def ko309 (P : Params) : Obj := fob "_law_signs" (top 45) (.type "function") none .none .none (.str "law_earlyscribe_k86_refused_texts" 534) none (.ref 308) .none #[]
noncomputable def ko315 (P : Params) : Obj := cob "_law_rest" 577 578 579 154 3 (.ref 310) (.ref 311) .none (.ref 312) (.ref 313) (.ref 314) 585 586
noncomputable def ko316 (P : Params) : Obj := fob "_law_rest" (top 46) (.type "function") none .none .none (.str "law_earlyscribe_k86_refused_texts" 534) none (.ref 315) .none #[]
noncomputable def ko322 (P : Params) : Obj := cob "_law_choices" 588 589 590 160 3 (.ref 317) (.ref 318) .none (.ref 319) (.ref 320) (.ref 321) 603 604
noncomputable def ko323 (P : Params) : Obj := fob "_law_choices" (top 47) (.type "function") none .none .none (.str "law_earlyscribe_k86_refused_texts" 534) none (.ref 322) .none #[]
noncomputable def ko329 (P : Params) : Obj := cob "_law_is_scribe" 606 607 608 180 1 (.ref 324) (.ref 325) .none (.ref 326) (.ref 327) (.ref 328) 614 615
noncomputable def ko330 (P : Params) : Obj := fob "_law_is_scribe" (top 48) (.type "function") none .none .none (.str "law_earlyscribe_k86_refused_texts" 534) none (.ref 329) .none #[]
noncomputable def ko336 (P : Params) : Obj := cob "_law_shown" 617 618 619 193 1 (.ref 331) (.ref 332) .none (.ref 333) (.ref 334) (.ref 335) 628 629
noncomputable def ko337 (P : Params) : Obj := fob "_law_shown" (top 49) (.type "function") none .none .none (.str "law_earlyscribe_k86_refused_texts" 534) none (.ref 336) .none #[]
noncomputable def ko341 (P : Params) : Obj := cob "_law_alone" 631 632 633 203 1 (.ref 338) (.ref 339) .none .none .none (.ref 340) 634 635
noncomputable def ko342 (P : Params) : Obj := fob "_law_alone" (top 50) (.type "function") none .none .none (.str "law_earlyscribe_k86_refused_texts" 534) none (.ref 341) .none #[]
noncomputable def ko348 (P : Params) : Obj := cob "_law_signs_bent" 637 638 639 210 3 (.ref 343) (.ref 344) .none (.ref 345) (.ref 346) (.ref 347) 647 648
noncomputable def ko349 (P : Params) : Obj := fob "_law_signs_bent" (top 51) (.type "function") none .none .none (.str "law_earlyscribe_k86_refused_texts" 534) none (.ref 348) .none #[]
noncomputable def ko355 (P : Params) : Obj := cob "_law_rows_bent" 650 651 652 228 3 (.ref 350) (.ref 351) .none (.ref 352) (.ref 353) (.ref 354) 660 661
noncomputable def ko356 (P : Params) : Obj := fob "_law_rows_bent" (top 52) (.type "function") none .none .none (.str "law_earlyscribe_k86_refused_texts" 534) none (.ref 355) .none #[]
noncomputable def ko362 (P : Params) : Obj := cob "_law_long" 663 664 665 244 2 (.ref 357) (.ref 358) .none (.ref 359) (.ref 360) (.ref 361) 671 672
noncomputable def ko363 (P : Params) : Obj := fob "_law_long" (top 53) (.type "function") none .none .none (.str "law_earlyscribe_k86_refused_texts" 534) none (.ref 362) .none #[]
noncomputable def ko369 (P : Params) : Obj := cob "_law_number" 674 675 676 252 1 (.ref 364) (.ref 365) .none (.ref 366) (.ref 367) (.ref 368) 680 681
noncomputable def ko370 (P : Params) : Obj := fob "_law_number" (top 54) (.type "function") none .none .none (.str "law_earlyscribe_k86_refused_texts" 534) none (.ref 369) .none #[]
noncomputable def ko374 (P : Params) : Obj := cob "_law_letters" 683 684 685 261 1 (.ref 371) (.ref 372) .none .none .none (.ref 373) 686 687
noncomputable def ko375 (P : Params) : Obj := fob "_law_letters" (top 55) (.type "function") none .none .none (.str "law_earlyscribe_k86_refused_texts" 534) none (.ref 374) .none #[]
noncomputable def ko381 (P : Params) : Obj := cob "_law_pair" 689 690 691 263 2 (.ref 376) (.ref 377) .none (.ref 378) (.ref 379) (.ref 380) 695 696
noncomputable def ko382 (P : Params) : Obj := fob "_law_pair" (top 56) (.type "function") none .none .none (.str "law_earlyscribe_k86_refused_texts" 534) none (.ref 381) .none #[]
noncomputable def ko388 (P : Params) : Obj := cob "_law_row" 698 699 700 268 3 (.ref 383) (.ref 384) .none (.ref 385) (.ref 386) (.ref 387) 708 709
noncomputable def ko389 (P : Params) : Obj := fob "_law_row" (top 57) (.type "function") none .none .none (.str "law_earlyscribe_k86_refused_texts" 534) none (.ref 388) .none #[]
noncomputable def ko395 (P : Params) : Obj := cob "_law_reader" 711 712 713 282 1 (.ref 390) (.ref 391) .none (.ref 392) (.ref 393) (.ref 394) 722 723
noncomputable def ko396 (P : Params) : Obj := fob "_law_reader" (top 58) (.type "function") none .none .none (.str "law_earlyscribe_k86_refused_texts" 534) none (.ref 395) .none #[]
noncomputable def ko402 (P : Params) : Obj := cob "law" 725 726 727 299 1 (.ref 397) (.ref 398) .none (.ref 399) (.ref 400) (.ref 401) 737 738
noncomputable def ko403 (P : Params) : Obj := fob "law" (top 59) (.type "function") none .none .none (.str "law_earlyscribe_k86_refused_texts" 534) none (.ref 402) .none #[]
noncomputable def K (P : Params) : Frag := (nat_lit 2, ko2 P) :: (nat_lit 3, ko3 P) :: (nat_lit 23, ko23 P) :: (nat_lit 24, ko24 P) :: (nat_lit 36, ko36 P) :: (nat_lit 37, ko37 P) :: (nat_lit 48, ko48 P) :: (nat_lit 49, ko49 P) :: (nat_lit 60, ko60 P) :: (nat_lit 61, ko61 P) :: (nat_lit 72, ko72 P) :: (nat_lit 73, ko73 P) :: (nat_lit 84, ko84 P) :: (nat_lit 85, ko85 P) :: (nat_lit 103, ko103 P) :: (nat_lit 104, ko104 P) :: (nat_lit 122, ko122 P) :: (nat_lit 123, ko123 P) :: (nat_lit 134, ko134 P) :: (nat_lit 135, ko135 P) :: (nat_lit 143, ko143 P) :: (nat_lit 144, ko144 P) :: (nat_lit 150, ko150 P) :: (nat_lit 151, ko151 P) :: (nat_lit 157, ko157 P) :: (nat_lit 158, ko158 P) :: (nat_lit 164, ko164 P) :: (nat_lit 165, ko165 P) :: (nat_lit 171, ko171 P) :: (nat_lit 172, ko172 P) :: (nat_lit 178, ko178 P) :: (nat_lit 179, ko179 P) :: (nat_lit 185, ko185 P) :: (nat_lit 186, ko186 P) :: (nat_lit 190, ko190 P) :: (nat_lit 191, ko191 P) :: (nat_lit 195, ko195 P) :: (nat_lit 196, ko196 P) :: (nat_lit 202, ko202 P) :: (nat_lit 203, ko203 P) :: (nat_lit 209, ko209 P) :: (nat_lit 210, ko210 P) :: (nat_lit 216, ko216 P) :: (nat_lit 217, ko217 P) :: (nat_lit 223, ko223 P) :: (nat_lit 224, ko224 P) :: (nat_lit 228, ko228 P) :: (nat_lit 229, ko229 P) :: (nat_lit 235, ko235 P) :: (nat_lit 236, ko236 P) :: (nat_lit 240, ko240 P) :: (nat_lit 241, ko241 P) :: (nat_lit 247, ko247 P) :: (nat_lit 248, ko248 P) :: (nat_lit 254, ko254 P) :: (nat_lit 255, ko255 P) :: (nat_lit 261, ko261 P) :: (nat_lit 262, ko262 P) :: (nat_lit 268, ko268 P) :: (nat_lit 269, ko269 P) :: (nat_lit 275, ko275 P) :: (nat_lit 276, ko276 P) :: (nat_lit 282, ko282 P) :: (nat_lit 283, ko283 P) :: (nat_lit 289, ko289 P) :: (nat_lit 290, ko290 P) :: (nat_lit 296, ko296 P) :: (nat_lit 297, ko297 P) :: (nat_lit 303, ko303 P) :: (nat_lit 304, ko304 P) :: (nat_lit 308, ko308 P) :: (nat_lit 309, ko309 P) :: (nat_lit 315, ko315 P) :: (nat_lit 316, ko316 P) :: (nat_lit 322, ko322 P) :: (nat_lit 323, ko323 P) :: (nat_lit 329, ko329 P) :: (nat_lit 330, ko330 P) :: (nat_lit 336, ko336 P) :: (nat_lit 337, ko337 P) :: (nat_lit 341, ko341 P) :: (nat_lit 342, ko342 P) :: (nat_lit 348, ko348 P) :: (nat_lit 349, ko349 P) :: (nat_lit 355, ko355 P) :: (nat_lit 356, ko356 P) :: (nat_lit 362, ko362 P) :: (nat_lit 363, ko363 P) :: (nat_lit 369, ko369 P) :: (nat_lit 370, ko370 P) :: (nat_lit 374, ko374 P) :: (nat_lit 375, ko375 P) :: (nat_lit 381, ko381 P) :: (nat_lit 382, ko382 P) :: (nat_lit 388, ko388 P) :: (nat_lit 389, ko389 P) :: (nat_lit 395, ko395 P) :: (nat_lit 396, ko396 P) :: (nat_lit 402, ko402 P) :: (nat_lit 403, ko403 P) :: []
def as : List Addr := [2, 3, 23, 24, 36, 37, 48, 49, 60, 61, 72, 73, 84, 85, 103, 104, 122, 123, 134, 135, 143, 144, 150, 151, 157, 158, 164, 165, 171, 172, 178, 179, 185, 186, 190, 191, 195, 196, 202, 203, 209, 210, 216, 217, 223, 224, 228, 229, 235, 236, 240, 241, 247, 248, 254, 255, 261, 262, 268, 269, 275, 276, 282, 283, 289, 290, 296, 297, 303, 304, 308, 309, 315, 316, 322, 323, 329, 330, 336, 337, 341, 342, 348, 349, 355, 356, 362, 363, 369, 370, 374, 375, 381, 382, 388, 389, 395, 396, 402, 403]
end My
lay_quick My.K
namespace My
open PySem PySem.W PyProof.Rows L2 L3
noncomputable def q : Program := view PySem.Challenge.pw_earlyscribe_k86_refused_texts [1, 2, 3, 4, 5, 6, 7, 8, 9, 11, 12, 13, 14, 15, 16, 17, 18, 19, 20, 21, 22, 23, 24, 25, 26, 28, 29, 30, 31, 32, 33, 34, 35, 36, 37, 38, 39, 41, 42, 43, 44, 45, 46, 47, 48, 49, 50, 51, 52, 53, 54, 55, 56, 57, 58, 59]
noncomputable def env : Env := { scope := PySem.Challenge.pw_earlyscribe_k86_refused_texts.main.scope, locals := mainNs, globals := mainNs, cells := [], code := (.ref 13), frame := some 14 }
theorem size (w : World) : ((boot_heap w.params).isNs mainGlobals && (Array.mk ([] : List GenState)).size == 0, (boot_heap w.params).objs.size, (boot_heap w.params).nsMap mainGlobals "__annotations__") = (true, 11, (some (.ref 6))) := by
  rw [PySem.W.Fast.te8920871248978507458]
  kernel_rfl
theorem hl : LeftO PySem.Challenge.pw_earlyscribe_k86_refused_texts q [] (fun s => xlAt q [] s && recOk [] s) (fun s => as.map s.heap.get?) (fun w => (K w.params).map fun x => some x.2) 6698 := by
  refine Hd.left_of (k1 := 12) (k2 := 1) (k3 := 3287) (k4 := 2) (n₁ := 15) (m₀ := 11) (ann := (some (.ref 6))) (env := env) (fp := ⟨0, 0, 0, 0⟩) (p1 := ⟨0, 0, 0, 0⟩) (p2 := ⟨0, 0, 0, 0⟩) (p3 := ⟨299, 0, 319, 89⟩) rfl rfl (fun _ => rfl) size rfl ?_
  intro w
  unfold Hd.look q env
  rw [PySem.W.Fast.te15667345088766844465, PySem.W.Fast.te14374325043358763698, PySem.W.Fast.te10110043849684766642, PySem.W.Fast.te14082659384304107361, PySem.W.Fast.te14364793385576792824, PySem.W.Fast.te4187177175401517315, PySem.W.Fast.te5923862056798008813, PySem.W.Fast.te11892475500146522536, PySem.W.Fast.te12754154230045568370, PySem.W.Fast.te3406554762017533653]
  kernel_rfl
end My
namespace My
open PySem PySem.Spec PyProof.Rows L2 L3
abbrev s_is_tuple_of : Stmt := top 17
abbrev s_is_number_below : Stmt := top 18
abbrev s_is_word : Stmt := top 19
abbrev s_all_unlike : Stmt := top 20
abbrev s_are_signs : Stmt := top 21
abbrev s_is_mark : Stmt := top 22
abbrev s_is_step : Stmt := top 23
abbrev s_are_marks : Stmt := top 24
abbrev s_are_steps : Stmt := top 25
abbrev s_is_scribe : Stmt := top 26
abbrev s_shown_word : Stmt := top 29
abbrev s_shown_mark : Stmt := top 30
abbrev s_shown_step : Stmt := top 31
abbrev s_shown_scribe : Stmt := top 32
abbrev s_read_parts : Stmt := top 33
abbrev s_read_number : Stmt := top 34
abbrev s_read_word : Stmt := top 35
abbrev s_read_mark : Stmt := top 36
abbrev s_read_step : Stmt := top 37
abbrev s_read_rows : Stmt := top 38
abbrev s_read_scribe : Stmt := top 39
abbrev s_law_cell_at : Stmt := top 41
abbrev s_law_whole : Stmt := top 42
abbrev s_law_mixed : Stmt := top 43
abbrev s_law_word : Stmt := top 44
abbrev s_law_signs : Stmt := top 45
abbrev s_law_rest : Stmt := top 46
abbrev s_law_choices : Stmt := top 47
abbrev s_law_is_scribe : Stmt := top 48
abbrev s_law_shown : Stmt := top 49
abbrev s_law_alone : Stmt := top 50
abbrev s_law_signs_bent : Stmt := top 51
abbrev s_law_rows_bent : Stmt := top 52
abbrev s_law_long : Stmt := top 53
abbrev s_law_number : Stmt := top 54
abbrev s_law_letters : Stmt := top 55
abbrev s_law_pair : Stmt := top 56
abbrev s_law_row : Stmt := top 57
abbrev s_law_reader : Stmt := top 58
abbrev s_law : Stmt := top 59
structure Bi (mg : Str → Option Value) : Prop where
  ValueError : mg "ValueError" = none
  all : mg "all" = none
  bool : mg "bool" = none
  int : mg "int" = none
  isinstance : mg "isinstance" = none
  len : mg "len" = none
  list : mg "list" = none
  max : mg "max" = none
  min : mg "min" = none
  range : mg "range" = none
  set : mg "set" = none
  str : mg "str" = none
  tuple : mg "tuple" = none
  zip : mg "zip" = none
  BEGINS : ∃ t, mg "BEGINS" = some (.int 2 t)
  EMPTY_WORD : ∃ t, mg "EMPTY_WORD" = some (.str "-" t)
  ENDS : ∃ t, mg "ENDS" = some (.int 4 t)
  MOST_ROOMS : ∃ t, mg "MOST_ROOMS" = some (.int 200 t)
  ROOMS : ∃ t, mg "ROOMS" = some (.int 1 t)
  SIGNS : ∃ t, mg "SIGNS" = some (.int 0 t)
  STEPS : ∃ t, mg "STEPS" = some (.int 3 t)
structure Xb (K : PySem.W.Frag) (mg : Str → Option Value) (c_ScribeError c_NoWay c_NoRoom c_NotPlain c_OtherSigns c_TooMany c_TwoWays c_NeverPlain c_NoText : Addr) : Prop where
  nm_ScribeError : mg "ScribeError" = some (.ref c_ScribeError)
  nm_NoWay : mg "NoWay" = some (.ref c_NoWay)
  nm_NoRoom : mg "NoRoom" = some (.ref c_NoRoom)
  nm_NotPlain : mg "NotPlain" = some (.ref c_NotPlain)
  nm_OtherSigns : mg "OtherSigns" = some (.ref c_OtherSigns)
  nm_TooMany : mg "TooMany" = some (.ref c_TooMany)
  nm_TwoWays : mg "TwoWays" = some (.ref c_TwoWays)
  nm_NeverPlain : mg "NeverPlain" = some (.ref c_NeverPlain)
  nm_NoText : mg "NoText" = some (.ref c_NoText)
  own_NoText : OwnX K mg "NoText" c_NoText
  xc_NoText : XCls K c_NoText
  cl_NoText : Clause K mg "NoText" c_NoText
  sub_NoText_NoText : PySem.W.mroIn K c_NoText (.ref c_NoText) = some true
  is_NoText_NoText : PySem.W.kitOne K (.ref c_NoText) (.ref c_NoText) = some true
  is_NoText_NeverPlain : PySem.W.kitOne K (.ref c_NoText) (.ref c_NeverPlain) = some false
  is_NoText_TwoWays : PySem.W.kitOne K (.ref c_NoText) (.ref c_TwoWays) = some false
  is_NoText_TooMany : PySem.W.kitOne K (.ref c_NoText) (.ref c_TooMany) = some false
  is_NoText_OtherSigns : PySem.W.kitOne K (.ref c_NoText) (.ref c_OtherSigns) = some false
  is_NoText_NotPlain : PySem.W.kitOne K (.ref c_NoText) (.ref c_NotPlain) = some false
  is_NoText_NoRoom : PySem.W.kitOne K (.ref c_NoText) (.ref c_NoRoom) = some false
  is_NoText_NoWay : PySem.W.kitOne K (.ref c_NoText) (.ref c_NoWay) = some false
  is_NoText_ScribeError : PySem.W.kitOne K (.ref c_NoText) (.ref c_ScribeError) = some true
  iv_NoText_ValueError : PySem.W.kitOne K (.ref c_NoText) (.type "ValueError") = some true

local macro_rules | `(tactic| walk_at "side") => `(tactic| first | exact pz | exact ⟨pz, pz⟩ | exact .inr ⟨by decide, by decide⟩ | exact ⟨by omega, by omega⟩ | exact .inl ⟨by omega, by omega⟩ | exact .inr ⟨by omega, by omega⟩ | (show (0 : Int) < _; omega) | exact szl (by simp) | exact szl (by omega))
local macro_rules | `(tactic| walk_at "r") => `(tactic| first | refine ⟨_, rfl, ?_⟩ | refine ⟨_, _, rfl, rfl, ?_⟩ | refine ⟨rfl, ?_⟩ | refine ⟨by walk_at "side", ?_⟩)
local macro_rules | `(tactic| walk_at "rd") => `(tactic| repeat walk_at "r")

def isNum (lo hi : Int) (v : V) : Prop := ∃ n : Int, v = .int n ∧ lo ≤ n ∧ n ≤ hi
theorem szl' {n : Nat} (h : n ≤ 99999) : n < sizeLine := Nat.lt_of_lt_of_le (Nat.lt_succ_of_le h) (szl (by omega))
theorem nd_int {n m : Nat} : decide (V.int (n : Int) = V.int (m : Int)) = decide (n = m) := by
  by_cases h : n = m
  · simp [h]
  · rw [decide_eq_false h, decide_eq_false]; intro e; injection e with e; exact h (by omega)
theorem nodup_dec {κ : Type} [DecidableEq κ] (ks : List κ) : decide (ndist ks.reverse = ks.length) = decide ks.Nodup := by
  have h := ndist_nodup ks.reverse
  rw [List.length_reverse, (List.reverse_perm ks).nodup_iff] at h
  exact decide_eq_decide.mpr h

def Wd (x : Str) : Prop := x.length ≤ 40 ∧ ∀ c ∈ cl x, 97 ≤ c ∧ c ≤ 122
structure OkS (pl : Bool) (s : Scr) (n : Nat) : Prop where
  lb : s.begins.length ≤ n
  ls : s.steps.length ≤ n
  le : s.ends.length ≤ n
  mb : ∀ m ∈ s.begins, 0 ≤ m.1 ∧ m.1 < s.rooms ∧ Wd m.2
  ms : ∀ t ∈ s.steps, 0 ≤ t.1 ∧ t.1 < s.rooms ∧ (∃ c ∈ cl s.signs, t.2.1 = ⟨#[c]⟩) ∧ Wd t.2.2.1 ∧ 0 ≤ t.2.2.2 ∧ t.2.2.2 < s.rooms
  me : ∀ m ∈ s.ends, 0 ≤ m.1 ∧ m.1 < s.rooms ∧ Wd m.2
  nb : s.begins.Nodup
  ns : s.steps.Nodup
  ne : s.ends.Nodup
  pb : pl = true → s.begins.length ≤ 1
  po : pl = true → (s.steps.map fun t => (t.1, t.2.1)).Nodup
  pe : pl = true → (s.ends.map (·.1)).Nodup
theorem OkS.mono {pl : Bool} {s : Scr} {n m : Nat} (h : OkS pl s n) (le : n ≤ m) : OkS pl s m :=
  ⟨Nat.le_trans h.lb le, Nat.le_trans h.ls le, Nat.le_trans h.le le, h.mb, h.ms, h.me, h.nb, h.ns, h.ne, h.pb, h.po, h.pe⟩
theorem nodup_snoc {α : Type} {xs : List α} {x : α} (h : xs.Nodup) (hn : x ∉ xs) : (xs ++ [x]).Nodup := by
  rw [List.nodup_append]
  refine ⟨h, by simp, fun a ha b hb => ?_⟩
  rw [List.mem_singleton] at hb
  subst hb
  intro e; subst e; exact hn ha
theorem OkS.begin {pl : Bool} {g : Str} {r : Int} {B : List Mk} {S : List Stp} {E : List Mk} {n : Nat} (h : OkS pl ⟨g, r, B, S, E⟩ n) {i : Int} {x : Str} (h0 : 0 ≤ i) (h1 : i < r) (hw : Wd x) (hn : (i, x) ∉ B) (hp : pl = true → B.length = 0) : OkS pl ⟨g, r, B ++ [(i, x)], S, E⟩ (n + 1) := by
  have ha := h.mono (Nat.le_succ n)
  refine ⟨?_, ha.ls, ha.le, fun m hm => ?_, h.ms, h.me, nodup_snoc h.nb hn, h.ns, h.ne, fun q => ?_, h.po, h.pe⟩
  · show (B ++ [(i, x)]).length ≤ n + 1
    have : B.length ≤ n := h.lb
    rw [List.length_append, List.length_singleton]; omega
  · rcases List.mem_append.mp hm with hm | hm
    · exact h.mb m hm
    · rw [List.mem_singleton.mp hm]; exact ⟨h0, h1, hw⟩
  · show (B ++ [(i, x)]).length ≤ 1
    rw [List.length_append, hp q, List.length_singleton]; omega
theorem OkS.end_ {pl : Bool} {g : Str} {r : Int} {B : List Mk} {S : List Stp} {E : List Mk} {n : Nat} (h : OkS pl ⟨g, r, B, S, E⟩ n) {i : Int} {x : Str} (h0 : 0 ≤ i) (h1 : i < r) (hw : Wd x) (hn : (i, x) ∉ E) (hp : pl = true → ∀ m ∈ E, m.1 ≠ i) : OkS pl ⟨g, r, B, S, E ++ [(i, x)]⟩ (n + 1) := by
  have ha := h.mono (Nat.le_succ n)
  refine ⟨ha.lb, ha.ls, ?_, h.mb, h.ms, fun m hm => ?_, h.nb, h.ns, nodup_snoc h.ne hn, h.pb, h.po, fun q => ?_⟩
  · show (E ++ [(i, x)]).length ≤ n + 1
    have : E.length ≤ n := h.le
    rw [List.length_append, List.length_singleton]; omega
  · rcases List.mem_append.mp hm with hm | hm
    · exact h.me m hm
    · rw [List.mem_singleton.mp hm]; exact ⟨h0, h1, hw⟩
  · show ((E ++ [(i, x)]).map (·.1)).Nodup
    rw [List.map_append]
    refine nodup_snoc (h.pe q) fun hm => ?_
    obtain ⟨m, hm, e⟩ := List.mem_map.mp hm
    exact hp q m hm e
theorem OkS.step {pl : Bool} {g : Str} {r : Int} {B : List Mk} {S : List Stp} {E : List Mk} {n : Nat} (h : OkS pl ⟨g, r, B, S, E⟩ n) {i j : Int} {y x : Str} (h0 : 0 ≤ i) (h1 : i < r) (hy : ∃ c ∈ cl g, y = ⟨#[c]⟩) (hw : Wd x) (h2 : 0 ≤ j) (h3 : j < r) (hn : (i, y, x, j) ∉ S) (hp : pl = true → ∀ t ∈ S, ¬ (t.1 = i ∧ t.2.1 = y)) :
    OkS pl ⟨g, r, B, S ++ [(i, y, x, j)], E⟩ (n + 1) := by
  have ha := h.mono (Nat.le_succ n)
  refine ⟨ha.lb, ?_, ha.le, h.mb, fun t ht => ?_, h.me, h.nb, nodup_snoc h.ns hn, h.ne, h.pb, fun q => ?_, h.pe⟩
  · show (S ++ [(i, y, x, j)]).length ≤ n + 1
    have : S.length ≤ n := h.ls
    rw [List.length_append, List.length_singleton]; omega
  · rcases List.mem_append.mp ht with hm | hm
    · exact h.ms t hm
    · rw [List.mem_singleton.mp hm]; exact ⟨h0, h1, hy, hw, h2, h3⟩
  · show ((S ++ [(i, y, x, j)]).map fun t => (t.1, t.2.1)).Nodup
    rw [List.map_append]
    refine nodup_snoc (h.po q) fun hm => ?_
    obtain ⟨t, hm, e⟩ := List.mem_map.mp hm
    injection e with e1 e2
    exact hp q t hm ⟨e1, e2⟩
def HI (K : PySem.W.Frag) (H0 : Hp) (pb ps pe : Addr) (pl : Bool) (g : Str) (r : Int) (n : Nat) (H : Hp) : Prop := ∃ B S E xb xs xe, Same H0 H ∧ H pb = some (.lst xb) ∧ H ps = some (.lst xs) ∧ H pe = some (.lst xe) ∧
  Paired (MkV K H) B xb ∧ Paired (StV K H) S xs ∧ Paired (MkV K H) E xe ∧ OkS pl ⟨g, r, B, S, E⟩ n
theorem same_updN {H0 H : Hp} {p : Addr} {o : HO} (g : Same H0 H) (h : H0 p = none) : Same H0 (upd H p o) := fun b u q => by rw [upd_ne (ne_of_none q h)]; exact g b u q
theorem HI.mono {K : PySem.W.Frag} {H0 H H' : Hp} {pb ps pe : Addr} {pl : Bool} {g : Str} {r : Int} {n m : Nat} (h : HI K H0 pb ps pe pl g r n H) (s : Same H H') (le : n ≤ m) : HI K H0 pb ps pe pl g r m H' := by
  obtain ⟨B, S, E, xb, xs, xe, h1, h2, h3, h4, h5, h6, h7, h8⟩ := h
  have g' := Same.grow s
  exact ⟨B, S, E, xb, xs, xe, h1.trans s, s _ _ h2, s _ _ h3, s _ _ h4, paired_mono (fun _ _ => MkV.mono g') h5, paired_mono (fun _ _ => StV.mono g') h6, paired_mono (fun _ _ => MkV.mono g') h7, h8.mono le⟩
structure Apart (H0 : Hp) (pb ps pe : Addr) : Prop where
  nb : H0 pb = none
  ns : H0 ps = none
  ne : H0 pe = none
  bs : pb ≠ ps
  be : pb ≠ pe
  se : ps ≠ pe
def cellAt (ns : List Int) (k : Int) : Int := if k < ns.length then (ns[k.toNat]?).getD 0 else 0
def spCell (K : PySem.W.Frag) : Sp := fun vs H Q _ => ∃ (a : Addr) (ns : List Int) (k : Int), vs = [.ref a, .int k] ∧ SqL K H a (ns.map V.int) ∧ 0 ≤ k ∧ Q (.int (cellAt ns k)) H
def spWord : Sp := fun vs H Q _ => ∃ c : Int, vs = [.int c] ∧ ∀ (x : Str) (H' : Hp), Wd x → Same H H' → Q (.str x) H'
def ScN (K : PySem.W.Frag) (H : Hp) (s : Scr) (v : V) (pb ps pe : Addr) : Prop := ∃ a xb xs xe, v = .ref a ∧ SqT K H a [.str s.signs, .int s.rooms, .ref pb, .ref ps, .ref pe] ∧ H pb = some (.lst xb) ∧ H ps = some (.lst xs) ∧ H pe = some (.lst xe) ∧
  Paired (MkV K H) s.begins xb ∧ Paired (StV K H) s.steps xs ∧ Paired (MkV K H) s.ends xe
theorem ScN.v {K : PySem.W.Frag} {H : Hp} {s : Scr} {v : V} {pb ps pe : Addr} : ScN K H s v pb ps pe → ScV K H s v pb ps pe
  | ⟨a, xb, xs, xe, e, h1, h2, h3, h4, h5, h6, h7⟩ => ⟨a, xb, xs, xe, e, h1, SqL.of h2, SqL.of h3, SqL.of h4, h5, h6, h7⟩
theorem one_len (c : Nat) : (⟨#[c]⟩ : Str).length = 1 := rfl
theorem len_app (a b : Str) : (a ++ b).length = a.length + b.length := by
  rw [← cl_length, cl_append, List.length_append, cl_length, cl_length]
theorem cl_nil : ∀ c ∈ cl ("" : Str), 97 ≤ c ∧ c ≤ 122 := by
  intro c hc
  have e : cl ("" : Str) = [] := by decide +kernel
  rw [e] at hc; cases hc
theorem cl_one (c : Nat) : cl ⟨#[c]⟩ = [c] := rfl

theorem iteB {b : Bool} {A B : Prop} (h1 : b = true → A) (h2 : b = false → B) : if b = true then A else B := by
  cases b
  · exact iteF (h2 rfl)
  · exact iteT (h1 rfl)
def SgnOk (g : Str) : Prop := 1 ≤ g.length ∧ g.length ≤ 5 ∧ (cl g).Nodup ∧ ∀ c ∈ cl g, 97 ≤ c ∧ c ≤ 122
theorem HI.addStep {K : PySem.W.Frag} {H0 H : Hp} {pb ps pe : Addr} {pl : Bool} {g : Str} {r : Int} {n : Nat} {B : List Mk} {S : List Stp} {E : List Mk} {xb xs xe : List V} {t : Stp} {v : V} (A : Apart H0 pb ps pe) (h1 : Same H0 H) (h2 : H pb = some (.lst xb)) (h3 : H ps = some (.lst xs)) (h4 : H pe = some (.lst xe))
    (h5 : Paired (MkV K H) B xb) (h6 : Paired (StV K H) S xs) (h7 : Paired (MkV K H) E xe) (h8 : OkS pl ⟨g, r, B, S ++ [t], E⟩ n) (hv : StV K H t v) : HI K H0 pb ps pe pl g r n (upd H ps (.lst (xs ++ [v]))) := by
  have gr := grow_upd h3 (.lst (xs ++ [v]))
  exact ⟨B, S ++ [t], E, xb, xs ++ [v], xe, same_updN h1 A.ns, by rw [upd_ne A.bs]; exact h2, upd_same, by rw [upd_ne A.se.symm]; exact h4, paired_mono (fun _ _ => MkV.mono gr) h5,
    paired_append (paired_mono (fun _ _ => StV.mono gr) h6) (.cons (StV.mono gr hv) .nil), paired_mono (fun _ _ => MkV.mono gr) h7, h8⟩
theorem HI.addEnd {K : PySem.W.Frag} {H0 H : Hp} {pb ps pe : Addr} {pl : Bool} {g : Str} {r : Int} {n : Nat} {B : List Mk} {S : List Stp} {E : List Mk} {xb xs xe : List V} {t : Mk} {v : V} (A : Apart H0 pb ps pe) (h1 : Same H0 H) (h2 : H pb = some (.lst xb)) (h3 : H ps = some (.lst xs)) (h4 : H pe = some (.lst xe))
    (h5 : Paired (MkV K H) B xb) (h6 : Paired (StV K H) S xs) (h7 : Paired (MkV K H) E xe) (h8 : OkS pl ⟨g, r, B, S, E ++ [t]⟩ n) (hv : MkV K H t v) : HI K H0 pb ps pe pl g r n (upd H pe (.lst (xe ++ [v]))) := by
  have gr := grow_upd h4 (.lst (xe ++ [v]))
  exact ⟨B, S, E ++ [t], xb, xs, xe ++ [v], same_updN h1 A.ne, by rw [upd_ne A.be]; exact h2, by rw [upd_ne A.se]; exact h3, upd_same, paired_mono (fun _ _ => MkV.mono gr) h5,
    paired_mono (fun _ _ => StV.mono gr) h6, paired_append (paired_mono (fun _ _ => MkV.mono gr) h7) (.cons (MkV.mono gr hv) .nil), h8⟩
theorem HI.addBegin {K : PySem.W.Frag} {H0 H : Hp} {pb ps pe : Addr} {pl : Bool} {g : Str} {r : Int} {n : Nat} {B : List Mk} {S : List Stp} {E : List Mk} {xb xs xe : List V} {t : Mk} {v : V} (A : Apart H0 pb ps pe) (h1 : Same H0 H) (h2 : H pb = some (.lst xb)) (h3 : H ps = some (.lst xs)) (h4 : H pe = some (.lst xe))
    (h5 : Paired (MkV K H) B xb) (h6 : Paired (StV K H) S xs) (h7 : Paired (MkV K H) E xe) (h8 : OkS pl ⟨g, r, B ++ [t], S, E⟩ n) (hv : MkV K H t v) : HI K H0 pb ps pe pl g r n (upd H pb (.lst (xb ++ [v]))) := by
  have gr := grow_upd h2 (.lst (xb ++ [v]))
  exact ⟨B ++ [t], S, E, xb ++ [v], xs, xe, same_updN h1 A.nb, upd_same, by rw [upd_ne A.bs.symm]; exact h3, by rw [upd_ne A.be.symm]; exact h4, paired_append (paired_mono (fun _ _ => MkV.mono gr) h5) (.cons (MkV.mono gr hv) .nil),
    paired_mono (fun _ _ => StV.mono gr) h6, paired_mono (fun _ _ => MkV.mono gr) h7, h8⟩
theorem notIn_mk {K : PySem.W.Frag} {H : Hp} {E : List Mk} {xe : List V} {m : Mk} (h : Paired (MkV K H) E xe) : Reps K H (E.map dMk) xe := reps_of (f := dMk) (F := MkV K H) (fun _ _ h => MkV.rep h) h
theorem reps_st {K : PySem.W.Frag} {H : Hp} {E : List Stp} {xe : List V} (h : Paired (StV K H) E xe) : Reps K H (E.map dSt) xe := reps_of (f := dSt) (F := StV K H) (fun _ _ h => StV.rep h) h
theorem take_get {α : Type} {xs : List α} {i : Nat} {x : α} (h : xs[i]? = some x) : xs.take (i + 1) = xs.take i ++ [x] := by rw [List.take_add_one, h]; rfl

def inR (n : Nat) (i : Int) : Prop := 0 ≤ i ∧ i < n
instance (n : Nat) (i : Int) : Decidable (inR n i) := inferInstanceAs (Decidable (_ ∧ _))
def catS (ys : List Str) : Str := ys.foldl (· ++ ·) ""
theorem nil_app (x : Str) : ("" : Str) ++ x = x := str_ext (by rw [cl_append, show cl ("" : Str) = [] by decide +kernel, List.nil_append])
theorem join_cat (ys : List Str) : Txt.join "" ys = catS ys := by
  have go : ∀ (ys : List Str) (a : Array Nat), (⟨ys.foldl (fun acc p => acc ++ ("" : Str).cps ++ p.cps) a⟩ : Str) = ys.foldl (· ++ ·) ⟨a⟩ := by
    intro ys
    induction ys with
    | nil => intro a; rfl
    | cons y ys ih =>
      intro a
      rw [List.foldl_cons, List.foldl_cons, ih]
      have e : (⟨a ++ ("" : Str).cps ++ y.cps⟩ : Str) = ⟨a⟩ ++ y := str_ext (by
        show (a ++ ("" : Str).cps ++ y.cps).toList = cl (⟨a⟩ ++ y)
        rw [cl_append, Array.toList_append, Array.toList_append]
        have z : ("" : Str).cps.toList = [] := by decide +kernel
        rw [z, List.append_nil])
      rw [e]
  cases ys with
  | nil => rfl
  | cons y ys =>
    show (⟨ys.foldl (fun acc p => acc ++ ("" : Str).cps ++ p.cps) y.cps⟩ : Str) = _
    rw [go]
    unfold catS
    rw [List.foldl_cons, nil_app]
def spMixed : Sp := fun vs H Q _ => ∃ c k : Int, vs = [.int c, .int k] ∧ ∀ n : Int, 0 ≤ n → n < 2147483587 → Q (.int n) H
def spRest (K : PySem.W.Frag) : Sp := fun vs H Q _ => ∃ (a : Addr) (ns : List Int) (k salt : Int), vs = [.ref a, .int k, .int salt] ∧ SqL K H a (ns.map V.int) ∧ 0 ≤ k ∧ 0 ≤ salt ∧ salt ≤ 8000 ∧ ∀ n : Int, Q (.int n) H
def isLet (v : V) : Prop := ∃ x : Str, v = .str x ∧ 1 ≤ x.length ∧ x.length ≤ 26 ∧ ∀ c ∈ cl x, 97 ≤ c ∧ c ≤ 122
def spSigns2 : Sp := fun vs H Q _ => ∃ n : Int, vs = [.int n] ∧ ∀ (g : Str) (H' : Hp), SgnOk g → Same H H' → Q (.str g) H'

theorem abc_cl : cl ("abcdefghijklmnopqrstuvwxyz" : Str) = List.range' 97 26 := by decide +kernel
theorem abc_len : ("abcdefghijklmnopqrstuvwxyz" : Str).length = 26 := by decide +kernel
theorem abc_at {j : Int} (h0 : 0 ≤ j) (h1 : j < 26) : atI (cl ("abcdefghijklmnopqrstuvwxyz" : Str)) j = some (97 + j.toNat) := by
  obtain ⟨n, rfl⟩ := Int.eq_ofNat_of_zero_le h0
  refine atI_nat ?_
  rw [abc_cl, List.getElem?_range' (by omega)]
  simp
def sgC (m : Int) (k : Nat) : Nat := 97 + ((m + 7 * (k : Int)) % 26).toNat
theorem cl_catS : ∀ cs : List Nat, cl (catS (cs.map fun c => (⟨#[c]⟩ : Str))) = cs
  | [] => by decide +kernel
  | c :: cs => by
    have go : ∀ (ys : List Str) (a : Str), cl (ys.foldl (· ++ ·) a) = cl a ++ cl (catS ys) := by
      intro ys
      induction ys with
      | nil => intro a; show cl a = cl a ++ cl ("" : Str); rw [show cl ("" : Str) = [] by decide +kernel, List.append_nil]
      | cons y ys ih =>
        intro a
        have h1 := ih (a ++ y)
        have h2 := ih ("" ++ y)
        show cl (ys.foldl (· ++ ·) (a ++ y)) = cl a ++ cl (ys.foldl (· ++ ·) ("" ++ y))
        rw [h1, h2, cl_append, cl_append, show cl ("" : Str) = [] by decide +kernel, List.nil_append, List.append_assoc]
    rw [List.map_cons]
    show cl ((cs.map fun c => (⟨#[c]⟩ : Str)).foldl (· ++ ·) ("" ++ ⟨#[c]⟩)) = _
    rw [go, cl_catS cs, cl_append, show cl ("" : Str) = [] by decide +kernel, cl_one]; rfl
theorem sgC_nodup (m : Int) : ∀ n : Nat, n ≤ 5 → ((List.range n).map (sgC m)).Nodup
  | 0, _ => by simp
  | n + 1, h => by
    rw [List.range_succ, List.map_append]
    refine nodup_snoc (sgC_nodup m n (by omega)) fun hm => ?_
    obtain ⟨k, hk, e⟩ := List.mem_map.mp hm
    have := List.mem_range.mp hk
    unfold sgC at e
    have h1 := Int.emod_nonneg (m + 7 * (k : Int)) (show (26 : Int) ≠ 0 by decide)
    have h2 := Int.emod_nonneg (m + 7 * (n : Int)) (show (26 : Int) ≠ 0 by decide)
    omega
theorem sg_ok (m : Int) {n : Nat} (h1 : 1 ≤ n) (h5 : n ≤ 5) : SgnOk (catS (((List.range n).map (sgC m)).map fun c => (⟨#[c]⟩ : Str))) := by
  have e := cl_catS ((List.range n).map (sgC m))
  refine ⟨?_, ?_, ?_, ?_⟩
  · rw [← cl_length, e, List.length_map, List.length_range]; exact h1
  · rw [← cl_length, e, List.length_map, List.length_range]; exact h5
  · rw [e]; exact sgC_nodup m n h5
  · rw [e]
    intro c hc
    obtain ⟨k, _, rfl⟩ := List.mem_map.mp hc
    unfold sgC
    have h1 := Int.emod_nonneg (m + 7 * (k : Int)) (show (26 : Int) ≠ 0 by decide)
    have h2 := Int.emod_lt_of_pos (m + 7 * (k : Int)) (show (0 : Int) < 26 by decide)
    omega

theorem is_int {K : PySem.W.Frag} : PySem.W.kitOne K (.type "int") (.type "int") = some true := rfl
theorem is_intb {K : PySem.W.Frag} : PySem.W.kitOne K (.type "int") (.type "bool") = some false := rfl
def spWholeI (K : PySem.W.Frag) : Sp := fun vs H Q _ => ∃ i : Int, vs = [.int i] ∧ Q (.bl true) H
def Kd (v : V) (c : Int) : Prop := (c = 0 ∧ ∃ i, v = .int i) ∨ (c = 1 ∧ ∃ x, v = .str x)
def spIsScr (K : PySem.W.Frag) : Sp := fun vs H Q _ => ∃ v s pb ps pe, vs = [v] ∧ ScV K H s v pb ps pe ∧ ∀ H', Same H H' → Q (.bl true) H'
theorem paired_mem2 {α β : Type} {R : α → β → Prop} {as : List α} {bs : List β} (h : Paired R as bs) : ∀ b ∈ bs, ∃ a ∈ as, R a b := by
  induction h with
  | nil => intro b hb; cases hb
  | cons r _ ih =>
    intro b hb
    rcases List.mem_cons.mp hb with z | z
    · subst z; exact ⟨_, List.mem_cons_self .., r⟩
    · obtain ⟨a, h1, h2⟩ := ih b z
      exact ⟨a, List.mem_cons_of_mem _ h1, h2⟩
theorem paired_two {α β : Type} {R : α → β → Prop} {as : List α} {bs : List β} (h : Paired R as bs) {i : Nat} {a : α} {b : β} (ha : as[i]? = some a) (hb : bs[i]? = some b) : R a b := by
  obtain ⟨a', h1, h2⟩ := paired_get h hb
  rw [ha] at h1
  cases h1
  exact h2
def RowOk (K : PySem.W.Frag) (H : Hp) (p : Addr) (cs : List Int) : Prop := ∃ X D', SqL K H p X ∧ Rep K H (.lst D') (.ref p) ∧ ∀ x ∈ X, ∃ b vs d, x = .ref b ∧ SqT K H b vs ∧ Paired Kd vs cs ∧ Rep K H d x ∧ isT d "tuple" = true
theorem RowOk.mk {K : PySem.W.Frag} {H : Hp} {p : Addr} {M : List Mk} {X : List V} (h1 : SqL K H p X) (h2 : Paired (MkV K H) M X) : RowOk K H p [0, 1] :=
  ⟨X, M.map dMk, h1, rep_lst h1 (notIn_mk (m := (0, "")) h2), fun x hx => by
    obtain ⟨m, _, hm⟩ := paired_mem2 h2 x hx
    obtain ⟨b, rfl, hb⟩ := id hm
    exact ⟨b, _, dMk m, rfl, hb, .cons (.inl ⟨rfl, _, rfl⟩) (.cons (.inr ⟨rfl, _, rfl⟩) .nil), MkV.rep hm, rfl⟩⟩
theorem RowOk.st {K : PySem.W.Frag} {H : Hp} {p : Addr} {S : List Stp} {X : List V} (h1 : SqL K H p X) (h2 : Paired (StV K H) S X) : RowOk K H p [0, 1, 1, 0] :=
  ⟨X, S.map dSt, h1, rep_lst h1 (reps_st h2), fun x hx => by
    obtain ⟨t, _, ht⟩ := paired_mem2 h2 x hx
    obtain ⟨b, rfl, hb⟩ := id ht
    exact ⟨b, _, dSt t, rfl, hb, .cons (.inl ⟨rfl, _, rfl⟩) (.cons (.inr ⟨rfl, _, rfl⟩) (.cons (.inr ⟨rfl, _, rfl⟩) (.cons (.inl ⟨rfl, _, rfl⟩) .nil))), StV.rep ht, rfl⟩⟩


def wordS (x : Str) : Bool := (cl x).all fun c => decide (97 ≤ c) && decide (c ≤ 122)
def wordD : D → Bool
  | .str x => wordS x
  | _ => false
def numD (d : D) (b : Int) : Bool := match d with
  | .int i => decide (0 ≤ i) && decide (i < b)
  | _ => false
def tupD (d : D) (n : Int) : Bool := match d with
  | .tup ds => decide ((ds.length : Int) = n)
  | _ => false
def spTupOf (K : PySem.W.Frag) : Sp := fun vs H Q _ => ∃ v d n, vs = [v, .int n] ∧ Rep K H d v ∧ Q (.bl (tupD d n)) H
def spNumB (K : PySem.W.Frag) : Sp := fun vs H Q _ => ∃ v d n, vs = [v, .int n] ∧ Rep K H d v ∧ Q (.bl (numD d n)) H
def spIsWord (K : PySem.W.Frag) : Sp := fun vs H Q _ => ∃ v d, vs = [v] ∧ Rep K H d v ∧ Q (.bl (wordD d)) H
theorem cl_a : cl ("a" : Str) = [97] := by decide +kernel
theorem cl_z : cl ("z" : Str) = [122] := by decide +kernel
theorem lt_one (a b : Nat) : ([a] : List Nat) < [b] ↔ a < b := by
  constructor
  · intro h
    cases h with
    | rel h => exact h
    | cons h => cases h
  · intro h; exact .rel h
theorem eqD_nil (x : Str) : eqD (.str x) (.str "") = decide (cl x = []) := by
  have e : cl ("" : Str) = [] := by decide +kernel
  show decide (x = "") = _
  refine decide_eq_decide.mpr ⟨fun h => by rw [h]; exact e, fun h => str_ext (by rw [h, e])⟩

mutual
def small : D → Prop
  | .str x => x.length ≤ 4000
  | .tup ds => smalls ds
  | .lst ds => ds.length ≤ 990 ∧ smalls ds
  | _ => True
def smalls : List D → Prop
  | [] => True
  | d :: ds => small d ∧ smalls ds
end
theorem smalls_mem : ∀ {ds : List D} {d : D}, smalls ds → d ∈ ds → small d
  | e :: ds, d, h, m => by
    unfold smalls at h
    rcases List.mem_cons.mp m with rfl | m
    · exact h.1
    · exact smalls_mem h.2 m
def signsD : D → Bool
  | .str x => wordS x && (!decide (cl x = []) && decide (cl x).Nodup)
  | _ => false
def markD (r : Int) : D → Bool
  | .tup [a, b] => numD a r && wordD b
  | _ => false
def inS (y g : Str) : Bool := !(Builtin.Str.occurrences g y 0 g.length 1).isEmpty
def stepD (g : Str) (r : Int) : D → Bool
  | .tup [a, .str y, c, e] => numD a r && (numD e r && (decide (y.length = 1) && (inS y g && wordD c)))
  | _ => false
def keyD : D → List Key
  | .tup ds => ds.filterMap fun d => match d with
    | .int i => some (Sum.inl i)
    | .str x => some (Sum.inr x)
    | _ => none
  | _ => []
def marksD (r : Int) : D → Bool
  | .lst ds => (ds.map (markD r)).all id && decide (ds.map keyD).Nodup
  | _ => false
def stepsD (g : Str) (r : Int) : D → Bool
  | .lst ds => (ds.map (stepD g r)).all id && decide (ds.map keyD).Nodup
  | _ => false
def scrD : D → Bool
  | .tup [.str g, .int r, b, s, e] => signsD (.str g) && (numD (.int r) 201 && (marksD r b && (marksD r e && stepsD g r s)))
  | _ => false
def spUnl (K : PySem.W.Frag) : Sp := fun vs H Q _ => ∃ v, vs = [v] ∧ ((∃ p ys ks, v = .ref p ∧ SqL K H p ys ∧ Paired (KeyV K H) ks ys ∧ ks.length ≤ 999 ∧ ∀ H', Same H H' → Q (.bl (decide ks.Nodup)) H') ∨ ∃ x : Str, v = .str x ∧ x.length ≤ 4000 ∧ ∀ H', Same H H' → Q (.bl (decide (cl x).Nodup)) H')
def spSigns (K : PySem.W.Frag) : Sp := fun vs H Q _ => ∃ v d, vs = [v] ∧ Rep K H d v ∧ small d ∧ ∀ H', Same H H' → Q (.bl (signsD d)) H'
def spMark (K : PySem.W.Frag) : Sp := fun vs H Q _ => ∃ v d r, vs = [v, .int r] ∧ Rep K H d v ∧ Q (.bl (markD r d)) H
def spStp (K : PySem.W.Frag) : Sp := fun vs H Q _ => ∃ v d g r, vs = [v, .str g, .int r] ∧ Rep K H d v ∧ small d ∧ Q (.bl (stepD g r d)) H
def spMarks (K : PySem.W.Frag) : Sp := fun vs H Q _ => ∃ v d r, vs = [v, .int r] ∧ Rep K H d v ∧ small d ∧ ∀ H', Same H H' → Q (.bl (marksD r d)) H'
def spStps (K : PySem.W.Frag) : Sp := fun vs H Q _ => ∃ v d g r, vs = [v, .str g, .int r] ∧ Rep K H d v ∧ small d ∧ ∀ H', Same H H' → Q (.bl (stepsD g r d)) H'
def spScr (K : PySem.W.Frag) : Sp := fun vs H Q _ => ∃ v d, vs = [v] ∧ Rep K H d v ∧ small d ∧ ∀ H', Same H H' → Q (.bl (scrD d)) H'
theorem Rep.tup2 {K : PySem.W.Frag} {H : Hp} {ds : List D} {v : V} (h : Rep K H (.tup ds) v) : ∃ a xs, v = .ref a ∧ SqT K H a xs ∧ Reps K H ds xs := by unfold Rep at h; exact h
theorem Rep.lst2 {K : PySem.W.Frag} {H : Hp} {ds : List D} {v : V} (h : Rep K H (.lst ds) v) : ∃ a xs, v = .ref a ∧ SqL K H a xs ∧ Reps K H ds xs := by unfold Rep at h; exact h
theorem mark_not {r : Int} {d : D} (h : tupD d 2 = false) : markD r d = false := by
  unfold markD
  split
  · exact absurd h (by simp [tupD])
  · rfl
theorem step_not {g : Str} {r : Int} {d : D} (h : tupD d 4 = false) : stepD g r d = false := by
  unfold stepD
  split
  · exact absurd h (by simp [tupD])
  · rfl
theorem tup_len {d : D} {n : Nat} (h : tupD d (n : Int) = true) : ∃ ds, d = .tup ds ∧ ds.length = n := by
  cases d with
  | tup ds => exact ⟨ds, rfl, by have := of_decide_eq_true (show decide ((ds.length : Int) = n) = true from h); omega⟩
  | _ => cases h

theorem markKey {K : PySem.W.Frag} {H : Hp} {r : Int} {d : D} {v : V} (h : markD r d = true) (rep : Rep K H d v) : KeyV K H (keyD d) v := by
  unfold markD at h
  split at h
  · rename_i a b
    obtain ⟨p, xs, rfl, hq, rs⟩ := Rep.tup2 rep
    obtain ⟨v0, r0, rfl, p0, rs⟩ := rs.inv
    obtain ⟨v1, r1, rfl, p1, rs⟩ := rs.inv
    cases rs.inv0
    rw [Bool.and_eq_true] at h
    cases a with
    | int i =>
      cases b with
      | str x =>
        unfold Rep at p0 p1
        subst p0; subst p1
        exact ⟨p, rfl, hq⟩
      | _ => exact absurd h.2 Bool.false_ne_true
    | _ => exact absurd h.1 Bool.false_ne_true
  · cases h
theorem stepKey {K : PySem.W.Frag} {H : Hp} {g : Str} {r : Int} {d : D} {v : V} (h : stepD g r d = true) (rep : Rep K H d v) : KeyV K H (keyD d) v := by
  unfold stepD at h
  split at h
  · rename_i a y c e
    obtain ⟨p, xs, rfl, hq, rs⟩ := Rep.tup2 rep
    obtain ⟨v0, r0, rfl, p0, rs⟩ := rs.inv
    obtain ⟨v1, r1, rfl, p1, rs⟩ := rs.inv
    obtain ⟨v2, r2, rfl, p2, rs⟩ := rs.inv
    obtain ⟨v3, r3, rfl, p3, rs⟩ := rs.inv
    cases rs.inv0
    simp only [Bool.and_eq_true] at h
    obtain ⟨ha, he, _, _, hw⟩ := h
    cases a with
    | int i =>
      cases e with
      | int j =>
        cases c with
        | str x =>
          unfold Rep at p0 p1 p2 p3
          subst p0; subst p1; subst p2; subst p3
          exact ⟨p, rfl, hq⟩
        | _ => exact absurd hw Bool.false_ne_true
      | _ => exact absurd he Bool.false_ne_true
    | _ => exact absurd ha Bool.false_ne_true
  · cases h
theorem keys_of {K : PySem.W.Frag} {H : Hp} {f : D → Bool} (hk : ∀ d v, f d = true → Rep K H d v → KeyV K H (keyD d) v) : ∀ {ds : List D} {vs : List V}, Reps K H ds vs → (∀ d ∈ ds, f d = true) → Paired (KeyV K H) (ds.map keyD) vs
  | [], _, h, _ => by rw [h.inv0]; exact .nil
  | d :: ds, _, h, a => by
    obtain ⟨v, r, rfl, q, t⟩ := h.inv
    exact .cons (hk d v (a d (List.mem_cons_self ..)) q) (keys_of hk t fun e he => a e (List.mem_cons_of_mem _ he))
theorem all_id {α : Type} {f : α → Bool} {xs : List α} (h : (xs.map f).all id = true) : ∀ x ∈ xs, f x = true := fun x hx => List.all_eq_true.mp h (f x) (List.mem_map_of_mem hx)
theorem Reps.at {K : PySem.W.Frag} {H : Hp} {ds : List D} {vs : List V} {i : Nat} {v : V} (h : Reps K H ds vs) (e : vs[i]? = some v) : ∃ d, ds[i]? = some d ∧ Rep K H d v := by
  have hi : i < vs.length := (List.getElem?_eq_some_iff.mp e).1
  rw [← h.length] at hi
  obtain ⟨v', e', q⟩ := h.get (List.getElem?_eq_getElem hi)
  rw [e] at e'
  cases e'
  exact ⟨_, List.getElem?_eq_getElem hi, q⟩

theorem scr_not {d : D} (h : tupD d 5 = false) : scrD d = false := by
  unfold scrD
  split
  · exact absurd h (by simp [tupD])
  · rfl


def shW (w : Str) : Str := if w = "" then "-" else w
def rowM (k : Str) (m : Mk) : Str := Txt.join " " [k, numS m.1.toNat, shW m.2]
def rowS (t : Stp) : Str := Txt.join " " ["step", numS t.1.toNat, t.2.1, shW t.2.2.1, numS t.2.2.2.toNat]
def row0 (s : Scr) : Str := Txt.join " " [s.signs, numS s.rooms.toNat]
def rowsOf (s : Scr) : List Str := [row0 s] ++ s.begins.map (rowM "begin") ++ s.steps.map rowS ++ s.ends.map (rowM "end")
def shown (s : Scr) : Str := Txt.join "\n" (rowsOf s)

def Wl (L : Nat) (x : Str) : Prop := x.length ≤ L ∧ ∀ c ∈ cl x, 97 ≤ c ∧ c ≤ 122
structure OkW (L M : Nat) (s : Scr) : Prop where
  lb : s.begins.length ≤ M
  ls : s.steps.length ≤ M
  le : s.ends.length ≤ M
  mb : ∀ m ∈ s.begins, 0 ≤ m.1 ∧ m.1 < s.rooms ∧ Wl L m.2
  ms : ∀ t ∈ s.steps, 0 ≤ t.1 ∧ t.1 < s.rooms ∧ (∃ c ∈ cl s.signs, t.2.1 = ⟨#[c]⟩) ∧ Wl L t.2.2.1 ∧ 0 ≤ t.2.2.2 ∧ t.2.2.2 < s.rooms
  me : ∀ m ∈ s.ends, 0 ≤ m.1 ∧ m.1 < s.rooms ∧ Wl L m.2
  nb : s.begins.Nodup
  ns : s.steps.Nodup
  ne : s.ends.Nodup
structure Ok86 (L M : Nat) (s : Scr) : Prop where
  ok : OkW L M s
  r0 : 0 ≤ s.rooms
  r1 : s.rooms ≤ 200
  s1 : 1 ≤ s.signs.length
  s2 : s.signs.length ≤ L
  s3 : (cl s.signs).Nodup
  s4 : ∀ c ∈ cl s.signs, 97 ≤ c ∧ c ≤ 122
def mOk (L : Nat) (m : Mk) : Prop := 0 ≤ m.1 ∧ m.1 < 201 ∧ Wl L m.2
def tOk (L : Nat) (t : Stp) : Prop := 0 ≤ t.1 ∧ t.1 < 201 ∧ 0 ≤ t.2.2.2 ∧ t.2.2.2 < 201 ∧ Wl L t.2.2.1 ∧ ∃ c, 97 ≤ c ∧ c ≤ 122 ∧ t.2.1 = ⟨#[c]⟩
def spShW : Sp := fun vs H Q _ => ∃ w : Str, vs = [.str w] ∧ Q (.str (shW w)) H
def spShM (K : PySem.W.Frag) : Sp := fun vs H Q _ => ∃ (k : Str) (v : V) (m : Mk), vs = [.str k, v] ∧ MkV K H m v ∧ mOk 3900 m ∧ k.length ≤ 10 ∧ ∀ H', Same H H' → Q (.str (rowM k m)) H'
def spShS (K : PySem.W.Frag) : Sp := fun vs H Q _ => ∃ (v : V) (t : Stp), vs = [v] ∧ StV K H t v ∧ tOk 3900 t ∧ ∀ H', Same H H' → Q (.str (rowS t)) H'
def spShown (K : PySem.W.Frag) : Sp := fun vs H Q _ => ∃ v s pb ps pe, vs = [v] ∧ ScV K H s v pb ps pe ∧ Ok86 3900 990 s ∧ ∀ H', Same H H' → Q (.str (shown s)) H'
def noSp (ps : List Str) : Prop := ∀ p, p ∈ ps → 32 ∉ cl p
section
variable {L M : Nat}
theorem cut_any {z : Str} {j : Int} (h0 : 0 ≤ j) : cl (Txt.slice z none (some j)) = (cl z).take j.toNat := by
  obtain ⟨m, rfl⟩ := Int.eq_ofNat_of_zero_le h0
  rw [cl_slice, HT.sIx_nat, HT.sIx_none, List.drop_zero, Nat.sub_zero]
  show (cl z).take (min m z.length) = (cl z).take m
  rw [← cl_length]
  by_cases h : m ≤ (cl z).length
  · rw [Nat.min_eq_left h]
  · rw [Nat.min_eq_right (by omega), List.take_length, List.take_of_length_le (by omega)]
theorem sp_eq : Str.ofString " " = ⟨#[32]⟩ := by decide +kernel
theorem nl_eq : Str.ofString "\n" = ⟨#[10]⟩ := by decide +kernel
theorem cl_dash : cl (Str.ofString "-") = [45] := by decide +kernel
theorem cl_emp : cl (Str.ofString "") = [] := by decide +kernel
theorem cl_sp : cl (Str.ofString " ") = [32] := by decide +kernel
theorem join1 (z x : Str) : Txt.join z [x] = x := StrLaws.glued_eq_join z [x]
theorem join2 (z x y : Str) (r : List Str) : Txt.join z (x :: y :: r) = x ++ z ++ Txt.join z (y :: r) := (StrLaws.glued_eq_join z _).trans (by rw [show Txt.join z (y :: r) = Str.join z (y :: r) from StrLaws.glued_eq_join z _]; rfl)
theorem join_inj {c : Nat} : ∀ {ps qs : List Str}, ps ≠ [] → qs ≠ [] → (∀ p, p ∈ ps → c ∉ cl p) → (∀ p, p ∈ qs → c ∉ cl p) → Txt.join ⟨#[c]⟩ ps = Txt.join ⟨#[c]⟩ qs → ps = qs := by
  have cut : ∀ (a b u v : List Nat), c ∉ a → c ∉ b → a ++ c :: u = b ++ c :: v → a = b ∧ u = v := by
    intro a
    induction a with
    | nil =>
      intro b u v _ hb e
      cases b with
      | nil => exact ⟨rfl, (List.cons.inj e).2⟩
      | cons y b => exact absurd (List.cons.inj e).1 (fun z => hb (z ▸ List.mem_cons_self ..))
    | cons x a ih =>
      intro b u v ha hb e
      cases b with
      | nil => exact absurd (List.cons.inj e).1 (fun z => ha (z ▸ List.mem_cons_self ..))
      | cons y b =>
        obtain ⟨e1, e2⟩ := List.cons.inj e
        obtain ⟨h1, h2⟩ := ih b u v (fun z => ha (List.mem_cons_of_mem _ z)) (fun z => hb (List.mem_cons_of_mem _ z)) e2
        exact ⟨by rw [e1, h1], h2⟩
  have no : ∀ (x p : Str) (r : List Str) (y : Str), c ∉ cl x → Txt.join ⟨#[c]⟩ (p :: y :: r) ≠ x := fun x p r y hx e => by
    rw [join2] at e
    refine hx ?_
    rw [← e, cl_append, cl_append]
    exact List.mem_append_left _ (List.mem_append_right _ (by rw [cl_one]; exact List.mem_singleton.mpr rfl))
  intro ps
  induction ps with
  | nil => intro qs h _ _ _ _; exact absurd rfl h
  | cons p ps ih =>
    intro qs _ hq hp hq2 e
    cases qs with
    | nil => exact absurd rfl hq
    | cons q qs =>
      have p0 := hp p (List.mem_cons_self ..)
      have q0 := hq2 q (List.mem_cons_self ..)
      cases ps with
      | nil =>
        cases qs with
        | nil => rw [join1, join1] at e; rw [e]
        | cons q1 qs => rw [join1] at e; exact absurd e.symm (no p q qs q1 p0)
      | cons p1 ps =>
        cases qs with
        | nil => rw [join1] at e; exact absurd e (no q p ps p1 q0)
        | cons q1 qs =>
          rw [join2, join2] at e
          have e' := congrArg cl e
          rw [cl_append, cl_append, cl_append, cl_append, cl_one, List.append_assoc, List.append_assoc] at e'
          obtain ⟨h1, h2⟩ := cut _ _ _ _ p0 q0 e'
          rw [str_ext h1, ih (by simp) (by simp) (fun x hx => hp x (List.mem_cons_of_mem _ hx)) (fun x hx => hq2 x (List.mem_cons_of_mem _ hx)) (str_ext h2)]
theorem split_join {c : Nat} {ps : List Str} (h : ps ≠ []) (hc : ∀ p, p ∈ ps → c ∉ cl p) : Txt.split (Txt.join ⟨#[c]⟩ ps) ⟨#[c]⟩ = ps := by
  refine join_inj (c := c) (fun z => ?_) h (StrLaws.split_free _ c) hc ?_
  · have e := StrLaws.join_split (Txt.join ⟨#[c]⟩ ps) ⟨#[c]⟩
    rw [z] at e
    rw [← e] at z
    revert z
    show Txt.split (Str.join ⟨#[c]⟩ []) ⟨#[c]⟩ ≠ []
    unfold Txt.split
    rw [if_pos (by rfl)]
    exact fun z => nomatch z
  · exact (StrLaws.glued_eq_join _ _).trans (StrLaws.join_split _ _)
def isDig (x : Str) : Prop := ∀ c ∈ cl x, 48 ≤ c ∧ c ≤ 57
theorem num_cl {n : Nat} (h : n < 201) : cl (numS n) = figs n := by rw [num_figs n h]
theorem num_dig {n : Nat} (h : n < 201) : isDig (numS n) := fun c hc => by
  rw [num_cl h] at hc
  unfold figs at hc
  split at hc
  · rw [List.mem_singleton] at hc; omega
  · split at hc <;> (simp only [List.mem_cons, List.not_mem_nil, or_false] at hc; omega)
theorem num_len {n : Nat} (h : n < 201) : 1 ≤ (numS n).length ∧ (numS n).length ≤ 3 := by
  rw [← cl_length, num_cl h]
  unfold figs
  split
  · exact ⟨by simp, by simp⟩
  · split <;> exact ⟨by simp, by simp⟩
theorem dig_cl : cl (Str.ofString "0123456789") = List.range' 48 10 := by decide +kernel
theorem cl_step : cl (Str.ofString "step") = [115, 116, 101, 112] := by decide +kernel
theorem cl_end : cl (Str.ofString "end") = [101, 110, 100] := by decide +kernel
theorem cl_begin : cl (Str.ofString "begin ") = 98 :: [101, 103, 105, 110, 32] := by decide +kernel
theorem cl_step2 : cl (Str.ofString "step ") = 115 :: [116, 101, 112, 32] := by decide +kernel
theorem ScN.mono {K : PySem.W.Frag} {H H' : Hp} {s : Scr} {v : V} {pb ps pe : Addr} (g : Same H H') : ScN K H s v pb ps pe → ScN K H' s v pb ps pe
  | ⟨a, xb, xs, xe, e, h1, h2, h3, h4, h5, h6, h7⟩ => ⟨a, xb, xs, xe, e, Same.seqT g h1, g _ _ h2, g _ _ h3, g _ _ h4, paired_mono (fun _ _ => MkV.mono (Same.grow g)) h5, paired_mono (fun _ _ => StV.mono (Same.grow g)) h6, paired_mono (fun _ _ => MkV.mono (Same.grow g)) h7⟩
theorem shW_ne {w : Str} : cl (shW w) = if cl w = [] then [45] else cl w := by
  unfold shW
  by_cases c : w = ""
  · rw [if_pos c, c]; rw [if_pos cl_emp]; exact cl_dash
  · rw [if_neg c, if_neg (fun z => c (str_ext (by rw [z]; exact cl_emp.symm)))]
theorem shW_no {w : Str} (h : Wl L w) {c : Nat} (hc : c < 45) : c ∉ cl (shW w) := fun z => by
  rw [shW_ne] at z
  split at z
  · rw [List.mem_singleton] at z; omega
  · have := h.2 c z; omega
theorem shW_len {w : Str} (h : Wl L w) : (shW w).length ≤ L + 1 := by
  rw [← cl_length, shW_ne]
  split
  · show 1 ≤ L + 1; omega
  · rw [cl_length]; have := h.1; omega
theorem shW_back {w : Str} (h : Wl L w) : (shW w = Str.ofString "-") ↔ w = "" := by
  unfold shW
  by_cases c : w = ""
  · rw [if_pos c]; exact ⟨fun _ => c, fun _ => rfl⟩
  · rw [if_neg c]
    refine ⟨fun z => ?_, fun z => absurd z c⟩
    have := h.2 45 (by rw [z, cl_dash]; exact List.mem_singleton.mpr rfl)
    omega
theorem parts_row (m : Mk) (k : Str) (hm : mOk L m) (hk : 32 ∉ cl k) : noSp [k, numS m.1.toNat, shW m.2] := by
  obtain ⟨h0, h1, h2⟩ := hm
  intro p hp
  simp only [List.mem_cons, List.not_mem_nil, or_false] at hp
  rcases hp with rfl | rfl | rfl
  · exact hk
  · intro z; have := num_dig (n := m.1.toNat) (by omega) 32 z; omega
  · exact shW_no h2 (by decide)
theorem parts_step (t : Stp) (ht : tOk L t) : noSp ["step", numS t.1.toNat, t.2.1, shW t.2.2.1, numS t.2.2.2.toNat] := by
  obtain ⟨h0, h1, h2, h3, h4, c, c1, c2, e⟩ := ht
  intro p hp
  simp only [List.mem_cons, List.not_mem_nil, or_false] at hp
  rcases hp with rfl | rfl | rfl | rfl | rfl
  · decide +kernel
  · intro z; have := num_dig (n := t.1.toNat) (by omega) 32 z; omega
  · rw [e, cl_one, List.mem_singleton]; omega
  · exact shW_no h4 (by decide)
  · intro z; have := num_dig (n := t.2.2.2.toNat) (by omega) 32 z; omega
theorem cl_join_no {z : Str} {d : Nat} (hz : d ∉ cl z) : ∀ ps : List Str, (∀ p, p ∈ ps → d ∉ cl p) → d ∉ cl (Txt.join z ps)
  | [], _ => by rw [show Txt.join z [] = Str.ofString "" from StrLaws.glued_eq_join z [], cl_emp]; exact fun z => nomatch z
  | [x], h => by rw [join1]; exact h x (List.mem_cons_self ..)
  | x :: y :: r, h => by
    rw [join2, cl_append, cl_append]
    intro m
    rcases List.mem_append.mp m with m | m
    · rcases List.mem_append.mp m with m | m
      · exact h x (List.mem_cons_self ..) m
      · exact hz m
    · exact cl_join_no hz (y :: r) (fun p hp => h p (List.mem_cons_of_mem _ hp)) m
theorem rowM_no {k : Str} {m : Mk} (hm : mOk L m) (hk : 10 ∉ cl k) : 10 ∉ cl (rowM k m) := by
  obtain ⟨h0, h1, h2⟩ := hm
  refine cl_join_no (by decide +kernel) _ fun p hp => ?_
  simp only [List.mem_cons, List.not_mem_nil, or_false] at hp
  rcases hp with rfl | rfl | rfl
  · exact hk
  · intro z; have := num_dig (n := m.1.toNat) (by omega) 10 z; omega
  · exact shW_no h2 (by decide)
theorem rowS_no {t : Stp} (ht : tOk L t) : 10 ∉ cl (rowS t) := by
  obtain ⟨h0, h1, h2, h3, h4, c, c1, c2, e⟩ := ht
  refine cl_join_no (by decide +kernel) _ fun p hp => ?_
  simp only [List.mem_cons, List.not_mem_nil, or_false] at hp
  rcases hp with rfl | rfl | rfl | rfl | rfl
  · decide +kernel
  · intro z; have := num_dig (n := t.1.toNat) (by omega) 10 z; omega
  · rw [e, cl_one, List.mem_singleton]; omega
  · exact shW_no h4 (by decide)
  · intro z; have := num_dig (n := t.2.2.2.toNat) (by omega) 10 z; omega
theorem Ok86.mb {s : Scr} (o : Ok86 L M s) : ∀ m, m ∈ s.begins → mOk L m := fun m hm => by
  have := o.ok.mb m hm; have := o.r1
  exact ⟨by omega, by omega, (o.ok.mb m hm).2.2⟩
theorem Ok86.me {s : Scr} (o : Ok86 L M s) : ∀ m, m ∈ s.ends → mOk L m := fun m hm => by
  have := o.ok.me m hm; have := o.r1
  exact ⟨by omega, by omega, (o.ok.me m hm).2.2⟩
theorem Ok86.ms {s : Scr} (o : Ok86 L M s) : ∀ t, t ∈ s.steps → tOk L t := fun t ht => by
  have h := o.ok.ms t ht
  have := o.r1
  obtain ⟨c, hc, e⟩ := h.2.2.1
  exact ⟨by omega, by omega, by omega, by omega, h.2.2.2.1, c, (o.s4 c hc).1, (o.s4 c hc).2, e⟩
theorem sgn_no {s : Scr} (o : Ok86 L M s) {d : Nat} (hd : d < 97) : d ∉ cl s.signs := fun z => by have := o.s4 d z; omega
theorem row0_no {s : Scr} (o : Ok86 L M s) : 10 ∉ cl (row0 s) := by
  refine cl_join_no (by decide +kernel) _ fun p hp => ?_
  simp only [List.mem_cons, List.not_mem_nil, or_false] at hp
  have := o.r0; have := o.r1
  rcases hp with rfl | rfl
  · exact sgn_no o (by decide)
  · intro z; have := num_dig (n := s.rooms.toNat) (by omega) 10 z; omega
theorem rows_no {s : Scr} (o : Ok86 L M s) : ∀ p, p ∈ rowsOf s → 10 ∉ cl p := fun p hp => by
  unfold rowsOf at hp
  simp only [List.mem_append, List.mem_singleton, List.mem_map] at hp
  rcases hp with ((rfl | ⟨m, hm, rfl⟩) | ⟨t, ht, rfl⟩) | ⟨m, hm, rfl⟩
  · exact row0_no o
  · exact rowM_no (o.mb m hm) (by decide +kernel)
  · exact rowS_no (o.ms t ht)
  · exact rowM_no (o.me m hm) (by decide +kernel)
theorem starts_no {a b : Str} {x y : Nat} {u v : List Nat} (ha : cl a = x :: u) (hb : cl b = y :: v) (h : x ≠ y) : Txt.startswith a b = false := by
  unfold Txt.startswith
  rw [StrLaws.subAt_eq, List.drop_zero, show a.cps.toList = x :: u from ha, show b.cps.toList = y :: v from hb]
  have e : b.length = v.length + 1 := by rw [← cl_length, hb]; rfl
  rw [e, List.take_succ_cons]
  have : ((x :: u.take v.length) == (y :: v)) = false := by
    rw [beq_eq_false_iff_ne]
    exact fun z => h (List.cons.inj z).1
  rw [this, Bool.and_false]
theorem row_head (k : Str) (p : Str) (r : List Str) : cl (Txt.join (Str.ofString " ") (k :: p :: r)) = cl k ++ 32 :: cl (Txt.join (Str.ofString " ") (p :: r)) := by
  rw [join2, cl_append, cl_append, cl_sp, List.append_assoc]; rfl
theorem starts_yes {k p b : Str} {r : List Str} (h : cl b = cl k ++ [32]) : Txt.startswith (Txt.join (Str.ofString " ") (k :: p :: r)) b = true :=
  starts_pre (by rw [row_head, h]; exact ⟨_, by rw [List.append_assoc]; rfl⟩)
theorem len_M {k : Str} {m : Mk} (hm : mOk L m) (hk : k.length ≤ 10) : (rowM k m).length ≤ L + 20 := by
  have h1 := StrLaws.join_length_le (Str.ofString " ") [k, numS m.1.toNat, shW m.2]
  have h2 := (num_len (n := m.1.toNat) (by have := hm.1; have := hm.2.1; omega)).2
  have h3 := shW_len hm.2.2
  have e : rowM k m = Str.join (Str.ofString " ") [k, numS m.1.toNat, shW m.2] := StrLaws.glued_eq_join _ _
  have e1 : (Str.ofString " ").length = 1 := by decide +kernel
  rw [e]
  simp only [List.map_cons, List.map_nil, List.sum_cons, List.sum_nil, List.length_cons, List.length_nil, e1] at h1
  omega
theorem len_S {t : Stp} (ht : tOk L t) : (rowS t).length ≤ L + 20 := by
  obtain ⟨h0, h1, h2, h3, h4, c, c1, c2, e⟩ := ht
  have g1 := StrLaws.join_length_le (Str.ofString " ") ["step", numS t.1.toNat, t.2.1, shW t.2.2.1, numS t.2.2.2.toNat]
  have g2 := (num_len (n := t.1.toNat) (by omega)).2
  have g3 := (num_len (n := t.2.2.2.toNat) (by omega)).2
  have g4 := shW_len h4
  have e0 : rowS t = Str.join (Str.ofString " ") ["step", numS t.1.toNat, t.2.1, shW t.2.2.1, numS t.2.2.2.toNat] := StrLaws.glued_eq_join _ _
  have e1 : (Str.ofString " ").length = 1 := by decide +kernel
  have e2 : (Str.ofString "step").length = 4 := by decide +kernel
  have e3 : t.2.1.length = 1 := by rw [e]; rfl
  rw [e0]
  simp only [List.map_cons, List.map_nil, List.sum_cons, List.sum_nil, List.length_cons, List.length_nil, e1, e2, e3] at g1
  omega
theorem len_0 {s : Scr} (o : Ok86 L M s) : (row0 s).length ≤ L + 20 := by
  have g1 := StrLaws.join_length_le (Str.ofString " ") [s.signs, numS s.rooms.toNat]
  have g2 := (num_len (n := s.rooms.toNat) (by have := o.r0; have := o.r1; omega)).2
  have e0 : row0 s = Str.join (Str.ofString " ") [s.signs, numS s.rooms.toNat] := StrLaws.glued_eq_join _ _
  have e1 : (Str.ofString " ").length = 1 := by decide +kernel
  have := o.s2
  rw [e0]
  simp only [List.map_cons, List.map_nil, List.sum_cons, List.sum_nil, List.length_cons, List.length_nil, e1] at g1
  omega
theorem rows_len {s : Scr} (o : Ok86 L M s) : ∀ p, p ∈ rowsOf s → p.length ≤ L + 20 := fun p hp => by
  unfold rowsOf at hp
  simp only [List.mem_append, List.mem_singleton, List.mem_map] at hp
  rcases hp with ((rfl | ⟨m, hm, rfl⟩) | ⟨t, ht, rfl⟩) | ⟨m, hm, rfl⟩
  · exact len_0 o
  · exact len_M (o.mb m hm) (by decide +kernel)
  · exact len_S (o.ms t ht)
  · exact len_M (o.me m hm) (by decide +kernel)
theorem sum_le {n : Nat} : ∀ {ps : List Str}, (∀ p, p ∈ ps → p.length ≤ n) → (ps.map (·.length)).sum ≤ n * ps.length
  | [], _ => Nat.zero_le _
  | p :: ps, h => by
    have h1 := h p (List.mem_cons_self ..)
    have h2 := sum_le fun q hq => h q (List.mem_cons_of_mem _ hq)
    rw [List.map_cons, List.sum_cons, List.length_cons, Nat.mul_succ]; omega
theorem rows_many {s : Scr} (o : Ok86 L M s) : (rowsOf s).length ≤ 3 * M + 1 := by
  have := o.ok.lb; have := o.ok.ls; have := o.ok.le
  unfold rowsOf
  simp only [List.length_append, List.length_map, List.length_singleton]
  omega
theorem wd_word {x : Str} (h : Wl L x) : wordS x = true := by
  unfold wordS
  refine List.all_eq_true.mpr fun c hc => ?_
  have := h.2 c hc
  rw [decide_eq_true this.1, decide_eq_true this.2]; rfl
theorem num_ok {a b : Int} (h0 : 0 ≤ a) (h1 : a < b) : numD (.int a) b = true := by
  show (decide (0 ≤ a) && decide (a < b)) = true
  rw [decide_eq_true h0, decide_eq_true h1]; rfl
theorem marks_ok {r : Int} {M : List Mk} (h : ∀ m, m ∈ M → 0 ≤ m.1 ∧ m.1 < r ∧ Wl L m.2) (nd : M.Nodup) : marksD r (.lst (M.map dMk)) = true := by
  show (((M.map dMk).map (markD r)).all id && decide ((M.map dMk).map keyD).Nodup) = true
  rw [Bool.and_eq_true]
  constructor
  · refine List.all_eq_true.mpr fun b hb => ?_
    obtain ⟨d, hd, rfl⟩ := List.mem_map.mp hb
    obtain ⟨m, hm, rfl⟩ := List.mem_map.mp hd
    obtain ⟨h0, h1, h2⟩ := h m hm
    show (numD (.int m.1) r && wordD (.str m.2)) = true
    rw [num_ok h0 h1, show wordD (.str m.2) = true from wd_word h2]; rfl
  · refine decide_eq_true ?_
    rw [List.map_map]
    refine List.Pairwise.map _ (fun a b hab e => hab ?_) nd
    have e' : [Sum.inl a.1, Sum.inr a.2] = ([Sum.inl b.1, Sum.inr b.2] : List Key) := e
    injection e' with e1 e2
    injection e1 with e1
    injection e2 with e2
    injection e2 with e2
    exact Prod.ext e1 e2
theorem steps_ok {g : Str} {r : Int} {S : List Stp} (h : ∀ t, t ∈ S → 0 ≤ t.1 ∧ t.1 < r ∧ (∃ c ∈ cl g, t.2.1 = ⟨#[c]⟩) ∧ Wl L t.2.2.1 ∧ 0 ≤ t.2.2.2 ∧ t.2.2.2 < r) (nd : S.Nodup) : stepsD g r (.lst (S.map dSt)) = true := by
  show (((S.map dSt).map (stepD g r)).all id && decide ((S.map dSt).map keyD).Nodup) = true
  rw [Bool.and_eq_true]
  constructor
  · refine List.all_eq_true.mpr fun b hb => ?_
    obtain ⟨d, hd, rfl⟩ := List.mem_map.mp hb
    obtain ⟨t, ht, rfl⟩ := List.mem_map.mp hd
    obtain ⟨h0, h1, ⟨c, hc, e⟩, h2, h3, h4⟩ := h t ht
    show (numD (.int t.1) r && (numD (.int t.2.2.2) r && (decide (t.2.1.length = 1) && (inS t.2.1 g && wordD (.str t.2.2.1))))) = true
    have e1 : inS t.2.1 g = true := by
      unfold inS
      rw [e, StrLaws.found_one]
      exact decide_eq_true hc
    have e2 : t.2.1.length = 1 := by rw [e]; rfl
    rw [num_ok h0 h1, num_ok h3 h4, decide_eq_true e2, e1, show wordD (.str t.2.2.1) = true from wd_word h2]; rfl
  · refine decide_eq_true ?_
    rw [List.map_map]
    refine List.Pairwise.map _ (fun a b hab e => hab ?_) nd
    have e' : [Sum.inl a.1, Sum.inr a.2.1, Sum.inr a.2.2.1, Sum.inl a.2.2.2] = ([Sum.inl b.1, Sum.inr b.2.1, Sum.inr b.2.2.1, Sum.inl b.2.2.2] : List Key) := e
    injection e' with e1 e2
    injection e1 with e1
    injection e2 with e2 e3
    injection e2 with e2
    injection e3 with e3 e4
    injection e3 with e3
    injection e4 with e4
    injection e4 with e4
    exact Prod.ext e1 (Prod.ext e2 (Prod.ext e3 e4))
theorem scr_ok {s : Scr} (o : Ok86 L M s) : scrD (dScr s) = true := by
  show (signsD (.str s.signs) && (numD (.int s.rooms) 201 && (marksD s.rooms (.lst (s.begins.map dMk)) && (marksD s.rooms (.lst (s.ends.map dMk)) && stepsD s.signs s.rooms (.lst (s.steps.map dSt)))))) = true
  have h1 : signsD (.str s.signs) = true := by
    show (wordS s.signs && (!decide (cl s.signs = []) && decide (cl s.signs).Nodup)) = true
    rw [wd_word ⟨o.s2, o.s4⟩, decide_eq_true o.s3, decide_eq_false (fun z => by have := o.s1; rw [← cl_length, z] at this; exact absurd this (by decide))]; rfl
  rw [h1, num_ok o.r0 (by have := o.r1; omega), marks_ok o.ok.mb o.ok.nb, marks_ok o.ok.me o.ok.ne, steps_ok o.ok.ms o.ok.ns]; rfl
theorem smalls_of {ds : List D} (h : ∀ d, d ∈ ds → small d) : smalls ds := by
  induction ds with
  | nil => unfold smalls; trivial
  | cons d ds ih => unfold smalls; exact ⟨h d (List.mem_cons_self ..), ih fun e he => h e (List.mem_cons_of_mem _ he)⟩
theorem small_mk {m : Mk} (h : m.2.length ≤ 4000) : small (dMk m) := by
  unfold dMk
  simp only [small, smalls]
  exact ⟨trivial, h, trivial⟩
theorem small_st {t : Stp} (h : t.2.1.length ≤ 4000) (h' : t.2.2.1.length ≤ 4000) : small (dSt t) := by
  unfold dSt
  simp only [small, smalls]
  exact ⟨trivial, h, h', trivial, trivial⟩
theorem cut1 {x : V} {xs : List V} : cutV (x :: xs) (some 1) none = xs := by
  unfold cutV
  rw [HT.sIx_none, show HT.sIx (x :: xs).length 0 (some 1) = min 1 (x :: xs).length from HT.sIx_nat _ _ 1]
  have e : min 1 (x :: xs).length = 1 := by rw [List.length_cons]; omega
  rw [e]
  exact List.take_of_length_le (Nat.le_refl _)
theorem row_is {k kb : Str} {m : Mk} {n : Nat} (h : cl kb = cl k ++ [32]) (hk : m.1 = (n : Int)) : kb ++ numS n ++ Str.ofString " " ++ shW m.2 = rowM k m := by
  unfold rowM
  have e : m.1.toNat = n := by rw [hk]; rfl
  refine str_ext ?_
  rw [e, join2, join2, join1]
  simp only [cl_append, cl_sp, h, List.append_assoc]
theorem step_is {t : Stp} {n1 n2 : Nat} (h1 : t.1 = (n1 : Int)) (h2 : t.2.2.2 = (n2 : Int)) : Str.ofString "step " ++ numS n1 ++ Str.ofString " " ++ t.2.1 ++ Str.ofString " " ++ shW t.2.2.1 ++ Str.ofString " " ++ numS n2 = rowS t := by
  unfold rowS
  have e1 : t.1.toNat = n1 := by rw [h1]; rfl
  have e2 : t.2.2.2.toNat = n2 := by rw [h2]; rfl
  have e3 : cl (Str.ofString "step ") = cl (Str.ofString "step") ++ [32] := by decide +kernel
  refine str_ext ?_
  rw [e1, e2, join2, join2, join2, join2, join1]
  simp only [cl_append, cl_sp, e3, List.append_assoc]
theorem sl_word {w : Str} {j : Int} (hj : j = if (1 : Int) > (w.length : Int) then 1 else (w.length : Int)) : Txt.slice (w ++ Str.ofString "-") none (some j) = shW w := by
  refine str_ext ?_
  have h0 : 0 ≤ j := by rw [hj]; split <;> omega
  rw [cut_any h0, shW_ne, cl_append, cl_dash]
  by_cases c : cl w = []
  · have e : w.length = 0 := by rw [← cl_length, c]; rfl
    rw [if_pos c, c, hj, e]; rfl
  · have e : 1 ≤ w.length := by rw [← cl_length]; exact List.length_pos_iff.mpr c
    have e2 : j.toNat = (cl w).length := by rw [hj, if_neg (by omega), cl_length]; omega
    rw [if_neg c, e2, List.take_left]
end

def spl (x : Str) : List Str := Txt.split x ⟨#[32]⟩
def lns (x : Str) : List Str := Txt.split x ⟨#[10]⟩
def digB (x : Str) : Bool := (cl x).all fun c => decide (48 ≤ c) && decide (c ≤ 57)
theorem digB_iff {x : Str} : digB x = true ↔ ∀ c ∈ cl x, 48 ≤ c ∧ c ≤ 57 := by
  unfold digB
  rw [List.all_eq_true]
  constructor
  · intro h c hc
    have := h c hc
    rw [Bool.and_eq_true, decide_eq_true_eq, decide_eq_true_eq] at this
    exact this
  · intro h c hc
    have := h c hc
    rw [decide_eq_true this.1, decide_eq_true this.2]; rfl
def valD (x : Str) : Nat := NumText.digitsVal (cl x)
def numP (x : Str) : Option Nat := if (1 ≤ x.length ∧ x.length ≤ 3) ∧ digB x = true then some (valD x) else none
def rdW (x : Str) : Str := if x = "-" then "" else x
def rdM (row : Str) : Option Mk := match spl row with
  | [_, n, w] => (numP n).map fun (k : Nat) => ((k : Int), rdW w)
  | _ => none
def rdS (row : Str) : Option Stp := match spl row with
  | [_, a, g, w, b] => match numP a with
    | some i => (numP b).map fun (j : Nat) => ((i : Int), g, rdW w, (j : Int))
    | none => none
  | _ => none
abbrev Tri := List Mk × List Stp × List Mk
def stP (z : Tri) (row : Str) : Option Tri :=
  if Txt.startswith row "begin " = true then (rdM row).map fun m => (z.1 ++ [m], z.2.1, z.2.2)
  else if Txt.startswith row "step " = true then (rdS row).map fun t => (z.1, z.2.1 ++ [t], z.2.2)
  else (rdM row).map fun m => (z.1, z.2.1, z.2.2 ++ [m])
def rdP (rows : List Str) : Option Scr := match rows with
  | [] => none
  | h :: rows => match spl h with
    | [g, n] => match rows.foldlM stP (([], [], []) : Tri) with
      | some z => (numP n).map fun (k : Nat) => ⟨g, (k : Int), z.1, z.2.1, z.2.2⟩
      | none => none
    | _ => none
open Classical in
def numL (x : Str) : Int := if x.length = 0 ∨ 3 < x.length ∨ (1 < x.length ∧ (cl x).head? = some 48) then -1 else if digB x = true then (valD x : Int) else -1
def pairL (r : Int) (a w : Str) : Option Mk := if numL a < 0 ∨ r ≤ numL a ∨ (w ≠ "-" ∧ (w = "" ∨ wordS w = false)) then none else some (numL a, rdW w)
abbrev Rw := Sum (Bool × Mk) Stp
def rowL (g : Str) (r : Int) (row : Str) : Option Rw := match spl row with
  | [k, a, y, w, b] => if k = "step" ∧ y.length = 1 ∧ inS y g = true then (match pairL r a w with
      | some m => if numL b < 0 ∨ r ≤ numL b then none else some (.inr (m.1, y, m.2, numL b))
      | none => none) else none
  | [k, a, w] => if k = "begin" then (pairL r a w).map fun m => .inl (false, m) else if k = "end" then (pairL r a w).map fun m => .inl (true, m) else none
  | _ => none
abbrev Qud := Nat × Tri
def stL (g : Str) (r : Int) (z : Qud) (row : Str) : Option Qud := match rowL g r row with
  | some (.inl (false, m)) => if 0 < z.1 ∨ m ∈ z.2.1 then none else some (0, z.2.1 ++ [m], z.2.2.1, z.2.2.2)
  | some (.inr t) => if 1 < z.1 ∨ t ∈ z.2.2.1 then none else some (1, z.2.1, z.2.2.1 ++ [t], z.2.2.2)
  | some (.inl (true, m)) => if m ∈ z.2.2.2 then none else some (2, z.2.1, z.2.2.1, z.2.2.2 ++ [m])
  | none => none
def headL (h : Str) : Option (Str × Int) := match spl h with
  | [g, n] => if g = "" ∨ wordS g = false ∨ numL n < 0 ∨ 200 < numL n ∨ ¬ (cl g).Nodup then none else some (g, numL n)
  | _ => none
def RL (x : Str) : Option Scr := match lns x with
  | [] => none
  | h :: rows => match headL h with
    | some (g, r) => (rows.foldlM (stL g r) ((0, [], [], []) : Qud)).map fun z => ⟨g, r, z.2.1, z.2.2.1, z.2.2.2⟩
    | none => none
theorem join_spl (x : Str) : Txt.join (Str.ofString " ") (spl x) = x := by
  rw [sp_eq]; exact (StrLaws.glued_eq_join _ _).trans (StrLaws.join_split _ _)
theorem join_lns (x : Str) : Txt.join (Str.ofString "\n") (lns x) = x := by
  rw [nl_eq]; exact (StrLaws.glued_eq_join _ _).trans (StrLaws.join_split _ _)
theorem spl_ne (x : Str) : spl x ≠ [] := fun z => by
  have e := join_spl x
  rw [z] at e
  rw [← e] at z
  revert z
  rw [show Txt.join (Str.ofString " ") [] = Str.ofString "" from StrLaws.glued_eq_join _ []]
  decide +kernel
theorem lns_ne (x : Str) : lns x ≠ [] := fun z => by
  have e := join_lns x
  rw [z] at e
  rw [← e] at z
  revert z
  rw [show Txt.join (Str.ofString "\n") [] = Str.ofString "" from StrLaws.glued_eq_join _ []]
  decide +kernel
theorem spl_join {ps : List Str} (h : ps ≠ []) (hc : noSp ps) : spl (Txt.join (Str.ofString " ") ps) = ps := by
  rw [sp_eq]; exact split_join h hc
theorem lns_join {ps : List Str} (h : ps ≠ []) (hc : ∀ p, p ∈ ps → 10 ∉ cl p) : lns (Txt.join (Str.ofString "\n") ps) = ps := by
  rw [nl_eq]; exact split_join h hc
theorem val_num (n : Nat) : valD (numS n) = n := by
  unfold valD cl
  rw [show (numS n).cps.toList = (Nat.toDigits 10 n).map Char.toNat from PySem.W.KIN.signs_num n]
  exact PySem.W.KIN.val_back n
theorem numP_num {n : Nat} (h : n < 201) : numP (numS n) = some n := by
  unfold numP
  rw [if_pos ⟨num_len h, digB_iff.mpr (num_dig h)⟩, val_num]
theorem numL_num {n : Nat} (h : n < 201) : numL (numS n) = n := by
  unfold numL
  have hl := num_len h
  rw [if_neg, if_pos (digB_iff.mpr (num_dig h)), val_num]
  rintro (h1 | h1 | ⟨h1, h2⟩)
  · omega
  · omega
  · rw [num_cl h] at h2
    rw [← cl_length, num_cl h] at h1
    unfold figs at h1 h2
    split at h2
    · rw [if_pos (by assumption)] at h1; exact absurd h1 (by simp)
    · split at h2
      · rw [List.head?_cons] at h2; injection h2 with h2; omega
      · rw [List.head?_cons] at h2; injection h2 with h2; omega
theorem char_back : ∀ c, c < 128 → (Char.ofNat c).toNat = c := by decide
theorem numL_inv {x : Str} (h : 0 ≤ numL x) : x = numS (numL x).toNat ∧ (numL x).toNat < 1000 := by
  unfold numL at h ⊢
  split at h
  · exact absurd h (by decide)
  · rename_i c
    rw [if_neg c]
    split at h
    · rename_i dg
      rw [if_pos dg]
      have hd := digB_iff.mp dg
      have hl : x.length ≠ 0 ∧ x.length ≤ 3 := ⟨fun z => c (.inl z), Nat.le_of_not_lt fun z => c (.inr (.inl z))⟩
      have e : ((valD x : Nat) : Int).toNat = valD x := rfl
      rw [e]
      have hcl : (cl x).length = x.length := cl_length x
      have key := NumText.toDigits_digitsVal (x.length - 1) (cl x) (by omega) hd (by
        by_cases c1 : x.length = 1
        · exact .inl (by omega)
        · refine .inr ?_
          cases hx : cl x with
          | nil => rw [hx] at hcl; exact absurd hcl.symm hl.1
          | cons a r =>
            refine ⟨a, r, rfl, ?_⟩
            have := hd a (by rw [hx]; exact List.mem_cons_self ..)
            have : a ≠ 48 := fun z => c (.inr (.inr ⟨by omega, by rw [hx, z]; rfl⟩))
            omega)
      constructor
      · refine str_ext ?_
        show cl x = (numS (valD x)).cps.toList
        rw [show (numS (valD x)).cps.toList = (Nat.toDigits 10 (valD x)).map Char.toNat from PySem.W.KIN.signs_num _]
        unfold valD
        rw [key, List.map_map]
        refine ((List.map_congr_left (fun c hc => ?_)).trans (List.map_id _)).symm
        have := hd c hc
        exact char_back c (by omega)
      · unfold valD NumText.digitsVal
        match hx : cl x, hcl, hl, hd with
        | [], _, _, _ => decide
        | [a], _, _, hd => have := hd a (by simp); simp; omega
        | [a, b], _, _, hd => have := hd a (by simp); have := hd b (by simp); simp; omega
        | [a, b, c], _, _, hd => have := hd a (by simp); have := hd b (by simp); have := hd c (by simp); simp; omega
        | a :: b :: c :: e :: r, hcl, hl, _ => rw [← hcl] at hl; simp at hl
    · exact absurd h (by decide)
theorem rdW_shW {w : Str} (h : Wl L w) : rdW (shW w) = w := by
  unfold rdW
  by_cases c : w = ""
  · rw [if_pos ((shW_back h).mpr c), c]
  · rw [if_neg (fun z => c ((shW_back h).mp z))]
    exact if_neg c
theorem shW_rdW {x : Str} (h : x ≠ "") : shW (rdW x) = x := by
  unfold rdW
  by_cases c : x = "-"
  · rw [if_pos c, c]; exact if_pos rfl
  · rw [if_neg c]; exact if_neg h

theorem nd_of {α β : Type} {f : α → β} {xs : List α} (h : (xs.map f).Nodup) : xs.Nodup := (List.pairwise_map.mp h).imp fun hab e => hab (congrArg f e)
def Lt (x : Str) : Prop := ∀ c ∈ cl x, 97 ≤ c ∧ c ≤ 122
theorem wordS_iff {x : Str} : wordS x = true ↔ Lt x := by
  unfold wordS Lt
  rw [List.all_eq_true]
  constructor
  · intro h c hc
    have := h c hc
    rw [Bool.and_eq_true, decide_eq_true_eq, decide_eq_true_eq] at this
    exact this
  · intro h c hc
    have := h c hc
    rw [decide_eq_true this.1, decide_eq_true this.2]; rfl
def mG (r : Int) (m : Mk) : Prop := 0 ≤ m.1 ∧ m.1 < r ∧ Lt m.2
def tG (g : Str) (r : Int) (t : Stp) : Prop := 0 ≤ t.1 ∧ t.1 < r ∧ (∃ c ∈ cl g, t.2.1 = ⟨#[c]⟩) ∧ Lt t.2.2.1 ∧ 0 ≤ t.2.2.2 ∧ t.2.2.2 < r
structure Gd (s : Scr) : Prop where
  mb : ∀ m ∈ s.begins, mG s.rooms m
  ms : ∀ t ∈ s.steps, tG s.signs s.rooms t
  me : ∀ m ∈ s.ends, mG s.rooms m
  nb : s.begins.Nodup
  ns : s.steps.Nodup
  ne : s.ends.Nodup
  r0 : 0 ≤ s.rooms
  r1 : s.rooms ≤ 200
  s1 : cl s.signs ≠ []
  s3 : (cl s.signs).Nodup
  s4 : Lt s.signs
theorem most_of {α : Type} (f : α → Nat) : ∀ xs : List α, ∃ n, ∀ x ∈ xs, f x ≤ n
  | [] => ⟨0, fun _ h => nomatch h⟩
  | x :: xs => by
    obtain ⟨n, h⟩ := most_of f xs
    refine ⟨f x + n, fun y hy => ?_⟩
    rcases List.mem_cons.mp hy with rfl | hy
    · omega
    · have := h y hy; omega
theorem Gd.okOf {s : Scr} (h : Gd s) {L M : Nat} (h1 : ∀ m ∈ s.begins, m.2.length ≤ L) (h2 : ∀ t ∈ s.steps, t.2.2.1.length ≤ L) (h3 : ∀ m ∈ s.ends, m.2.length ≤ L) (h4 : s.signs.length ≤ L) (h5 : s.begins.length ≤ M) (h6 : s.steps.length ≤ M) (h7 : s.ends.length ≤ M) : Ok86 L M s :=
  ⟨⟨h5, h6, h7, fun m hm => ⟨(h.mb m hm).1, (h.mb m hm).2.1, h1 m hm, (h.mb m hm).2.2⟩, fun t ht => ⟨(h.ms t ht).1, (h.ms t ht).2.1, (h.ms t ht).2.2.1, ⟨h2 t ht, (h.ms t ht).2.2.2.1⟩, (h.ms t ht).2.2.2.2⟩, fun m hm => ⟨(h.me m hm).1, (h.me m hm).2.1, h3 m hm, (h.me m hm).2.2⟩, h.nb, h.ns, h.ne⟩, h.r0, h.r1, by rw [← cl_length]; exact List.length_pos_iff.mpr h.s1, h4, h.s3, h.s4⟩
theorem Gd.ex {s : Scr} (h : Gd s) : ∃ L M, Ok86 L M s := by
  obtain ⟨a, h1⟩ := most_of (fun m : Mk => m.2.length) s.begins
  obtain ⟨b, h2⟩ := most_of (fun t : Stp => t.2.2.1.length) s.steps
  obtain ⟨c, h3⟩ := most_of (fun m : Mk => m.2.length) s.ends
  exact ⟨a + b + c + s.signs.length, s.begins.length + s.steps.length + s.ends.length, h.okOf (fun m hm => by have := h1 m hm; omega) (fun m hm => by have := h2 m hm; omega) (fun m hm => by have := h3 m hm; omega) (by omega) (by omega) (by omega) (by omega)⟩
theorem Gd.scr {s : Scr} (h : Gd s) : scrD (dScr s) = true := by
  obtain ⟨L, M, o⟩ := h.ex
  exact scr_ok o
theorem gd_num {a b : Int} (h : numD (.int a) b = true) : 0 ≤ a ∧ a < b := by
  have h : (decide (0 ≤ a) && decide (a < b)) = true := h
  rw [Bool.and_eq_true, decide_eq_true_eq, decide_eq_true_eq] at h
  exact h
theorem gd_marks {r : Int} {M : List Mk} (h : marksD r (.lst (M.map dMk)) = true) : (∀ m ∈ M, mG r m) ∧ M.Nodup := by
  have h : (((M.map dMk).map (markD r)).all id && decide ((M.map dMk).map keyD).Nodup) = true := h
  rw [Bool.and_eq_true] at h
  constructor
  · intro m hm
    have h1 : markD r (dMk m) = true := all_id h.1 _ (List.mem_map_of_mem hm)
    have h1 : (numD (.int m.1) r && wordD (.str m.2)) = true := h1
    rw [Bool.and_eq_true] at h1
    exact ⟨(gd_num h1.1).1, (gd_num h1.1).2, wordS_iff.mp h1.2⟩
  · have := of_decide_eq_true h.2
    exact nd_of (nd_of this)
theorem one_of {y : Str} (h : y.length = 1) : ∃ c, y = ⟨#[c]⟩ := by
  have e : (cl y).length = 1 := by rw [cl_length]; exact h
  obtain ⟨c, hc⟩ := List.length_eq_one_iff.mp e
  exact ⟨c, str_ext hc⟩
theorem gd_in {y g : Str} (h : y.length = 1) : inS y g = true ↔ ∃ c ∈ cl g, y = ⟨#[c]⟩ := by
  obtain ⟨c, rfl⟩ := one_of h
  unfold inS
  rw [StrLaws.found_one]
  constructor
  · intro h; exact ⟨c, of_decide_eq_true h, rfl⟩
  · rintro ⟨e, he, z⟩
    injection z with z
    injection z with z
    injection z with z
    rw [z]; exact decide_eq_true he
theorem gd_steps {g : Str} {r : Int} {S : List Stp} (h : stepsD g r (.lst (S.map dSt)) = true) : (∀ t ∈ S, tG g r t) ∧ S.Nodup := by
  have h : (((S.map dSt).map (stepD g r)).all id && decide ((S.map dSt).map keyD).Nodup) = true := h
  rw [Bool.and_eq_true] at h
  constructor
  · intro t ht
    have h1 : stepD g r (dSt t) = true := all_id h.1 _ (List.mem_map_of_mem ht)
    have h1 : (numD (.int t.1) r && (numD (.int t.2.2.2) r && (decide (t.2.1.length = 1) && (inS t.2.1 g && wordD (.str t.2.2.1))))) = true := h1
    simp only [Bool.and_eq_true] at h1
    obtain ⟨a, b, c, e, f⟩ := h1
    exact ⟨(gd_num a).1, (gd_num a).2, (gd_in (of_decide_eq_true c)).mp e, wordS_iff.mp f, (gd_num b).1, (gd_num b).2⟩
  · have := of_decide_eq_true h.2
    exact nd_of (nd_of this)
theorem Gd.of {s : Scr} (h : scrD (dScr s) = true) : Gd s := by
  have h : (signsD (.str s.signs) && (numD (.int s.rooms) 201 && (marksD s.rooms (.lst (s.begins.map dMk)) && (marksD s.rooms (.lst (s.ends.map dMk)) && stepsD s.signs s.rooms (.lst (s.steps.map dSt)))))) = true := h
  simp only [Bool.and_eq_true] at h
  obtain ⟨a, b, c, e, f⟩ := h
  have a : (wordS s.signs && (!decide (cl s.signs = []) && decide (cl s.signs).Nodup)) = true := a
  simp only [Bool.and_eq_true, decide_eq_true_eq] at a
  have := gd_num b
  exact ⟨(gd_marks c).1, (gd_steps f).1, (gd_marks e).1, (gd_marks c).2, (gd_steps f).2, (gd_marks e).2, this.1, by omega, fun z => by have := a.2.1; rw [decide_eq_true z] at this; exact Bool.false_ne_true this, a.2.2, wordS_iff.mp a.1⟩
theorem lns_shown {s : Scr} (hs : Gd s) : lns (shown s) = rowsOf s := by
  obtain ⟨_, _, o⟩ := hs.ex
  exact lns_join (fun z => nomatch z) (rows_no o)
theorem spl_row0 {s : Scr} (h : Gd s) : spl (row0 s) = [s.signs, numS s.rooms.toNat] := by
  refine spl_join (fun z => nomatch z) fun p hp => ?_
  simp only [List.mem_cons, List.not_mem_nil, or_false] at hp
  rcases hp with rfl | rfl
  · intro z; have := h.s4 _ z; omega
  · intro z; have := num_dig (n := s.rooms.toNat) (by have := h.r0; have := h.r1; omega) 32 z; omega
theorem mG.ok {r : Int} {m : Mk} (h : mG r m) (hr : r ≤ 200) : mOk m.2.length m := ⟨h.1, by have := h.2.1; omega, Nat.le_refl _, h.2.2⟩
theorem tG.ok {g : Str} {r : Int} {t : Stp} (h : tG g r t) (hr : r ≤ 200) (hg : Lt g) : tOk t.2.2.1.length t := by
  obtain ⟨a, b, ⟨c, hc, e⟩, d, f, k⟩ := h
  exact ⟨a, by omega, f, by omega, ⟨Nat.le_refl _, d⟩, c, (hg c hc).1, (hg c hc).2, e⟩
theorem spl_M {k : Str} {m : Mk} (hk : 32 ∉ cl k) (h : mOk L m) : spl (rowM k m) = [k, numS m.1.toNat, shW m.2] := spl_join (fun z => nomatch z) (parts_row m k h hk)
theorem spl_S {t : Stp} (h : tOk L t) : spl (rowS t) = [Str.ofString "step", numS t.1.toNat, t.2.1, shW t.2.2.1, numS t.2.2.2.toNat] := spl_join (fun z => nomatch z) (parts_step t h)
theorem cast_num {a : Int} (h : 0 ≤ a) : ((a.toNat : Nat) : Int) = a := by omega
theorem rdM_row {k : Str} {m : Mk} (hk : 32 ∉ cl k) (h : mOk L m) : rdM (rowM k m) = some m := by
  unfold rdM
  rw [spl_M hk h]
  have := h.1; have := h.2.1
  show (numP (numS m.1.toNat)).map (fun (k : Nat) => ((k : Int), rdW (shW m.2))) = some m
  rw [numP_num (by omega), rdW_shW h.2.2, Option.map_some, cast_num h.1]
theorem rdS_row {t : Stp} (h : tOk L t) : rdS (rowS t) = some t := by
  unfold rdS
  rw [spl_S h]
  obtain ⟨h0, h1, h2, h3, h4, h5⟩ := h
  dsimp only
  rw [numP_num (n := t.1.toNat) (by omega), numP_num (n := t.2.2.2.toNat) (by omega), rdW_shW h4]
  dsimp only
  rw [Option.map_some, cast_num h0, cast_num h2]
theorem fold_B : ∀ (bs : List Mk) (z : Tri), (∀ m ∈ bs, ∃ L, mOk L m) → (bs.map (rowM "begin")).foldlM stP z = some (z.1 ++ bs, z.2.1, z.2.2)
  | [], z, _ => by rw [List.append_nil]; rfl
  | m :: bs, z, h => by
    obtain ⟨L, hm⟩ := h m (List.mem_cons_self ..)
    rw [List.map_cons, List.foldlM_cons]
    have e : stP z (rowM "begin" m) = some (z.1 ++ [m], z.2.1, z.2.2) := by
      unfold stP
      rw [show Txt.startswith (rowM "begin" m) (Str.ofString "begin ") = true from starts_yes (by decide +kernel), if_pos rfl, rdM_row (by decide +kernel) hm]; rfl
    rw [e]
    refine (fold_B bs _ fun x hx => h x (List.mem_cons_of_mem _ hx)).trans ?_
    dsimp only
    rw [List.append_assoc]; rfl
theorem fold_S : ∀ (bs : List Stp) (z : Tri), (∀ m ∈ bs, ∃ L, tOk L m) → (bs.map rowS).foldlM stP z = some (z.1, z.2.1 ++ bs, z.2.2)
  | [], z, _ => by rw [List.append_nil]; rfl
  | t :: bs, z, h => by
    obtain ⟨L, hm⟩ := h t (List.mem_cons_self ..)
    rw [List.map_cons, List.foldlM_cons]
    have e : stP z (rowS t) = some (z.1, z.2.1 ++ [t], z.2.2) := by
      unfold stP
      rw [show Txt.startswith (rowS t) (Str.ofString "begin ") = false from starts_no (x := 115) (y := 98) ((row_head _ _ _).trans (by rw [cl_step]; rfl)) cl_begin (by decide), if_neg Bool.false_ne_true, show Txt.startswith (rowS t) (Str.ofString "step ") = true from starts_yes (by decide +kernel), if_pos rfl, rdS_row hm]; rfl
    rw [e]
    refine (fold_S bs _ fun x hx => h x (List.mem_cons_of_mem _ hx)).trans ?_
    dsimp only
    rw [List.append_assoc]; rfl
theorem fold_E : ∀ (bs : List Mk) (z : Tri), (∀ m ∈ bs, ∃ L, mOk L m) → (bs.map (rowM "end")).foldlM stP z = some (z.1, z.2.1, z.2.2 ++ bs)
  | [], z, _ => by rw [List.append_nil]; rfl
  | m :: bs, z, h => by
    obtain ⟨L, hm⟩ := h m (List.mem_cons_self ..)
    rw [List.map_cons, List.foldlM_cons]
    have e : stP z (rowM "end" m) = some (z.1, z.2.1, z.2.2 ++ [m]) := by
      unfold stP
      rw [show Txt.startswith (rowM "end" m) (Str.ofString "begin ") = false from starts_no (x := 101) (y := 98) ((row_head _ _ _).trans (by rw [cl_end]; rfl)) cl_begin (by decide), if_neg Bool.false_ne_true, show Txt.startswith (rowM "end" m) (Str.ofString "step ") = false from starts_no (x := 101) (y := 115) ((row_head _ _ _).trans (by rw [cl_end]; rfl)) cl_step2 (by decide), if_neg Bool.false_ne_true, rdM_row (by decide +kernel) hm]; rfl
    rw [e]
    refine (fold_E bs _ fun x hx => h x (List.mem_cons_of_mem _ hx)).trans ?_
    dsimp only
    rw [List.append_assoc]; rfl
theorem rdP_shown {s : Scr} (h : Gd s) : rdP (lns (shown s)) = some s := by
  rw [lns_shown h]
  have e : (s.begins.map (rowM "begin") ++ s.steps.map rowS ++ s.ends.map (rowM "end")).foldlM stP (([], [], []) : Tri) = some (s.begins, s.steps, s.ends) := by
    rw [List.foldlM_append, List.foldlM_append, fold_B _ _ (fun m hm => ⟨_, (h.mb m hm).ok h.r1⟩)]
    dsimp only [Option.bind_eq_bind, Option.bind_some, bind, Option.bind]
    rw [fold_S _ _ (fun m hm => ⟨_, (h.ms m hm).ok h.r1 h.s4⟩)]
    dsimp only [Option.bind_eq_bind, Option.bind_some, bind, Option.bind]
    rw [fold_E _ _ (fun m hm => ⟨_, (h.me m hm).ok h.r1⟩)]
    rfl
  have e0 : rowsOf s = row0 s :: (s.begins.map (rowM "begin") ++ s.steps.map rowS ++ s.ends.map (rowM "end")) := by
    unfold rowsOf; simp only [List.append_assoc, List.cons_append, List.nil_append]
  rw [e0]
  unfold rdP
  dsimp only
  rw [spl_row0 h, e]
  dsimp only
  rw [numP_num (by have := h.r0; have := h.r1; omega), Option.map_some, cast_num h.r0]

theorem word_ne {w : Str} (h : Lt w) (hw : shW w ≠ "-") : shW w ≠ "" ∧ wordS (shW w) = true := by
  have e : shW w = w := by
    unfold shW
    rw [if_neg]
    intro z
    exact hw (by unfold shW; rw [if_pos z])
  rw [e]
  refine ⟨fun z => hw ?_, wordS_iff.mpr h⟩
  unfold shW; rw [if_pos z]
theorem pairL_ok {r : Int} {m : Mk} (h : mG r m) (hr : r ≤ 200) : pairL r (numS m.1.toNat) (shW m.2) = some m := by
  have h0 := h.1; have h1 := h.2.1
  unfold pairL
  rw [numL_num (n := m.1.toNat) (by omega), cast_num h0, if_neg, rdW_shW (L := m.2.length) ⟨Nat.le_refl _, h.2.2⟩]
  rintro (c | c | ⟨c, d⟩)
  · omega
  · omega
  · obtain ⟨a, b⟩ := word_ne h.2.2 c
    rcases d with d | d
    · exact a d
    · rw [b] at d; exact Bool.false_ne_true d.symm
theorem pairL_inv {r : Int} {a w : Str} {m : Mk} (h : pairL r a w = some m) : mG r m ∧ a = numS m.1.toNat ∧ w = shW m.2 := by
  unfold pairL at h
  split at h
  · cases h
  · rename_i c
    injection h with h
    subst h
    have c1 : 0 ≤ numL a := Int.not_lt.mp fun z => c (.inl z)
    have c2 : numL a < r := Int.not_le.mp fun z => c (.inr (.inl z))
    have c3 : w ≠ "" ∧ Lt (rdW w) := by
      by_cases d : w = "-"
      · rw [d]
        refine ⟨by decide +kernel, ?_⟩
        unfold rdW
        rw [if_pos rfl]
        intro x hx
        rw [cl_emp] at hx; cases hx
      · have d1 : w ≠ "" := fun z => c (.inr (.inr ⟨d, .inl z⟩))
        refine ⟨d1, ?_⟩
        unfold rdW
        rw [if_neg d]
        cases e : wordS w with
        | true => exact wordS_iff.mp e
        | false => exact absurd (.inr (.inr ⟨d, .inr e⟩)) c
    exact ⟨⟨c1, c2, c3.2⟩, (numL_inv c1).1, (shW_rdW c3.1).symm⟩
theorem ne_bs : Str.ofString "begin" ≠ Str.ofString "step" := by decide +kernel
theorem ne_eb : Str.ofString "end" ≠ Str.ofString "begin" := by decide +kernel
theorem rowL_B {g : Str} {r : Int} {m : Mk} (h : mG r m) (hr : r ≤ 200) : rowL g r (rowM "begin" m) = some (.inl (false, m)) := by
  unfold rowL
  rw [spl_M (by decide +kernel) (h.ok hr)]
  dsimp only
  rw [if_pos rfl, pairL_ok h hr]; rfl
theorem rowL_E {g : Str} {r : Int} {m : Mk} (h : mG r m) (hr : r ≤ 200) : rowL g r (rowM "end" m) = some (.inl (true, m)) := by
  unfold rowL
  rw [spl_M (by decide +kernel) (h.ok hr)]
  dsimp only
  rw [if_neg ne_eb, if_pos rfl, pairL_ok h hr]; rfl
theorem rowL_S {g : Str} {r : Int} {t : Stp} (h : tG g r t) (hr : r ≤ 200) (hg : Lt g) : rowL g r (rowS t) = some (.inr t) := by
  unfold rowL
  rw [spl_S (h.ok hr hg)]
  obtain ⟨h0, h1, h2, h3, h4, h5⟩ := h
  have e1 : t.2.1.length = 1 := by obtain ⟨c, _, e⟩ := h2; rw [e]; rfl
  dsimp only
  rw [if_pos ⟨rfl, e1, (gd_in e1).mpr h2⟩, pairL_ok (m := (t.1, t.2.2.1)) ⟨h0, h1, h3⟩ hr]
  dsimp only
  rw [numL_num (n := t.2.2.2.toNat) (by omega), cast_num h4, if_neg (by omega)]
theorem rowL_inv {g : Str} {r : Int} {row : Str} {w : Rw} (h : rowL g r row = some w) : match w with
    | .inl (false, m) => mG r m ∧ row = rowM "begin" m
    | .inl (true, m) => mG r m ∧ row = rowM "end" m
    | .inr t => tG g r t ∧ row = rowS t := by
  have ej := join_spl row
  unfold rowL at h
  split at h
  · rename_i k a y w' b es
    rw [es] at ej
    split at h
    · rename_i c
      obtain ⟨c1, c2, c3⟩ := c
      split at h
      · rename_i m em
        split at h
        · cases h
        · rename_i c4
          injection h with h
          subst h
          obtain ⟨p1, p2, p3⟩ := pairL_inv em
          have c5 : 0 ≤ numL b := Int.not_lt.mp fun z => c4 (.inl z)
          have c6 : numL b < r := Int.not_le.mp fun z => c4 (.inr z)
          refine ⟨⟨p1.1, p1.2.1, (gd_in c2).mp c3, p1.2.2, c5, c6⟩, ?_⟩
          unfold rowS
          dsimp only
          rw [← ej, c1, ← p2, ← p3, ← (numL_inv c5).1]
      · cases h
    · cases h
  · rename_i k a w' es
    rw [es] at ej
    split at h
    · rename_i c
      obtain ⟨m, em, h⟩ := Option.map_eq_some_iff.mp h
      subst h
      obtain ⟨p1, p2, p3⟩ := pairL_inv em
      exact ⟨p1, by unfold rowM; rw [← ej, c, ← p2, ← p3]⟩
    · split at h
      · rename_i c
        obtain ⟨m, em, h⟩ := Option.map_eq_some_iff.mp h
        subst h
        obtain ⟨p1, p2, p3⟩ := pairL_inv em
        exact ⟨p1, by unfold rowM; rw [← ej, c, ← p2, ← p3]⟩
      · cases h
  · cases h
theorem headL_ok {s : Scr} (h : Gd s) : headL (row0 s) = some (s.signs, s.rooms) := by
  unfold headL
  rw [spl_row0 h]
  have h0 := h.r0; have h1 := h.r1
  dsimp only
  rw [numL_num (n := s.rooms.toNat) (by omega), cast_num h0, if_neg]
  rintro (c | c | c | c | c)
  · exact h.s1 (by rw [c]; exact cl_emp)
  · rw [wordS_iff.mpr h.s4] at c; exact Bool.false_ne_true c.symm
  · omega
  · omega
  · exact c h.s3
theorem headL_inv {h : Str} {g : Str} {r : Int} (e : headL h = some (g, r)) : h = Txt.join (Str.ofString " ") [g, numS r.toNat] ∧ 0 ≤ r ∧ r ≤ 200 ∧ cl g ≠ [] ∧ (cl g).Nodup ∧ Lt g := by
  have ej := join_spl h
  unfold headL at e
  split at e
  · rename_i g' n es
    rw [es] at ej
    split at e
    · cases e
    · rename_i c
      injection e with e
      injection e with e1 e2
      subst e1; subst e2
      have c1 : 0 ≤ numL n := Int.not_lt.mp fun z => c (.inr (.inr (.inl z)))
      refine ⟨by rw [← (numL_inv c1).1, ej], c1, Int.not_lt.mp fun z => c (.inr (.inr (.inr (.inl z)))), fun z => c (.inl (str_ext (by rw [z]; exact cl_emp.symm))), Classical.not_not.mp fun z => c (.inr (.inr (.inr (.inr z)))), ?_⟩
      cases ew : wordS g' with
      | true => exact wordS_iff.mp ew
      | false => exact absurd (.inr (.inl ew)) c
  · cases e
theorem foL_B {g : Str} {r : Int} (hr : r ≤ 200) : ∀ (bs B : List Mk), (∀ m ∈ bs, mG r m) → (B ++ bs).Nodup → (bs.map (rowM "begin")).foldlM (stL g r) ((0, B, [], []) : Qud) = some (0, B ++ bs, [], [])
  | [], B, _, _ => by rw [List.append_nil]; rfl
  | m :: bs, B, h, nd => by
    rw [List.map_cons, List.foldlM_cons]
    have hm : m ∉ B := fun z => (List.nodup_append.mp nd).2.2 _ z _ (List.mem_cons_self ..) rfl
    have e : stL g r (0, B, [], []) (rowM "begin" m) = some (0, B ++ [m], [], []) := by
      unfold stL
      rw [rowL_B (h m (List.mem_cons_self ..)) hr]
      dsimp only
      rw [if_neg]
      rintro (z | z)
      · exact Nat.lt_irrefl _ z
      · exact hm z
    rw [e]
    refine (foL_B hr bs _ (fun x hx => h x (List.mem_cons_of_mem _ hx)) (by rw [List.append_assoc]; exact nd)).trans ?_
    rw [List.append_assoc]; rfl
theorem foL_S {g : Str} {r : Int} (hr : r ≤ 200) (hg : Lt g) (B : List Mk) : ∀ (bs S : List Stp) (n : Nat), n ≤ 1 → (∀ t ∈ bs, tG g r t) → (S ++ bs).Nodup → ∃ n', n' ≤ 1 ∧ (bs.map rowS).foldlM (stL g r) ((n, B, S, []) : Qud) = some (n', B, S ++ bs, [])
  | [], S, n, hn, _, _ => ⟨n, hn, by rw [List.append_nil]; rfl⟩
  | t :: bs, S, n, hn, h, nd => by
    rw [List.map_cons, List.foldlM_cons]
    have hm : t ∉ S := fun z => (List.nodup_append.mp nd).2.2 _ z _ (List.mem_cons_self ..) rfl
    have e : stL g r (n, B, S, []) (rowS t) = some (1, B, S ++ [t], []) := by
      unfold stL
      rw [rowL_S (h t (List.mem_cons_self ..)) hr hg]
      dsimp only
      rw [if_neg]
      rintro (z | z)
      · omega
      · exact hm z
    rw [e]
    obtain ⟨n', h1, h2⟩ := foL_S hr hg B bs (S ++ [t]) 1 (Nat.le_refl _) (fun x hx => h x (List.mem_cons_of_mem _ hx)) (by rw [List.append_assoc]; exact nd)
    refine ⟨n', h1, h2.trans ?_⟩
    rw [List.append_assoc]; rfl
theorem foL_E {g : Str} {r : Int} (hr : r ≤ 200) (B : List Mk) (S : List Stp) : ∀ (bs E : List Mk) (n : Nat), (∀ m ∈ bs, mG r m) → (E ++ bs).Nodup → ∃ n', (bs.map (rowM "end")).foldlM (stL g r) ((n, B, S, E) : Qud) = some (n', B, S, E ++ bs)
  | [], E, n, _, _ => ⟨n, by rw [List.append_nil]; rfl⟩
  | m :: bs, E, n, h, nd => by
    rw [List.map_cons, List.foldlM_cons]
    have hm : m ∉ E := fun z => (List.nodup_append.mp nd).2.2 _ z _ (List.mem_cons_self ..) rfl
    have e : stL g r (n, B, S, E) (rowM "end" m) = some (2, B, S, E ++ [m]) := by
      unfold stL
      rw [rowL_E (h m (List.mem_cons_self ..)) hr]
      dsimp only
      rw [if_neg hm]
    rw [e]
    obtain ⟨n', h2⟩ := foL_E hr B S bs (E ++ [m]) 2 (fun x hx => h x (List.mem_cons_of_mem _ hx)) (by rw [List.append_assoc]; exact nd)
    refine ⟨n', h2.trans ?_⟩
    rw [List.append_assoc]; rfl
theorem rows_cons (s : Scr) : rowsOf s = row0 s :: (s.begins.map (rowM "begin") ++ s.steps.map rowS ++ s.ends.map (rowM "end")) := by
  unfold rowsOf; simp only [List.append_assoc, List.cons_append, List.nil_append]
theorem RL_shown {s : Scr} (h : Gd s) : RL (shown s) = some s := by
  unfold RL
  rw [lns_shown h, rows_cons]
  dsimp only
  rw [headL_ok h]
  dsimp only
  have e1 := foL_B (g := s.signs) h.r1 s.begins [] h.mb h.nb
  obtain ⟨n1, h1, e2⟩ := foL_S h.r1 h.s4 s.begins s.steps [] 0 (Nat.zero_le _) h.ms h.ns
  obtain ⟨n2, e3⟩ := foL_E (g := s.signs) h.r1 s.begins s.steps s.ends [] n1 h.me h.ne
  rw [List.foldlM_append, List.foldlM_append, e1]
  rw [List.nil_append] at e2 e3 ⊢
  dsimp only [Option.bind_eq_bind, Option.bind_some, bind, Option.bind]
  rw [e2]
  dsimp only [Option.bind_eq_bind, Option.bind_some, bind, Option.bind]
  rw [e3]
  rfl
structure LI (g : Str) (r : Int) (pre : List Str) (z : Qud) : Prop where
  rows : pre = z.2.1.map (rowM "begin") ++ z.2.2.1.map rowS ++ z.2.2.2.map (rowM "end")
  p0 : z.1 = 0 → z.2.2.1 = []
  p1 : z.1 ≤ 1 → z.2.2.2 = []
  mb : ∀ m ∈ z.2.1, mG r m
  ms : ∀ t ∈ z.2.2.1, tG g r t
  me : ∀ m ∈ z.2.2.2, mG r m
  nb : z.2.1.Nodup
  ns : z.2.2.1.Nodup
  ne : z.2.2.2.Nodup
theorem nd_snoc {α : Type} {xs : List α} {x : α} (h : xs.Nodup) (hx : x ∉ xs) : (xs ++ [x]).Nodup :=
  List.nodup_append.mpr ⟨h, List.pairwise_singleton .., fun a ha b hb e => hx (by rw [List.mem_singleton] at hb; rw [← hb, ← e]; exact ha)⟩
theorem all_snoc {α : Type} {P : α → Prop} {xs : List α} {x : α} (h : ∀ y ∈ xs, P y) (hx : P x) : ∀ y ∈ xs ++ [x], P y := fun y hy => by
  rcases List.mem_append.mp hy with hy | hy
  · exact h y hy
  · rw [List.mem_singleton] at hy; rw [hy]; exact hx
theorem LI.step {g : Str} {r : Int} {pre : List Str} {z z' : Qud} {row : Str} (h : LI g r pre z) (e : stL g r z row = some z') : LI g r (pre ++ [row]) z' := by
  unfold stL at e
  split at e
  · rename_i m em
    obtain ⟨hm, er⟩ := rowL_inv em
    split at e
    · cases e
    · rename_i c
      injection e with e
      subst e
      have c1 : z.1 = 0 := by have : ¬ 0 < z.1 := fun q => c (.inl q); omega
      have c2 : m ∉ z.2.1 := fun q => c (.inr q)
      have e1 := h.p0 c1
      have e2 := h.p1 (by omega)
      refine ⟨?_, fun _ => e1, fun _ => e2, all_snoc h.mb hm, h.ms, h.me, nd_snoc h.nb c2, h.ns, h.ne⟩
      rw [h.rows, er]
      dsimp only
      rw [e1, e2]
      simp only [List.map_nil, List.append_nil, List.map_append, List.map_cons]
  · rename_i t et
    obtain ⟨ht, er⟩ := rowL_inv et
    split at e
    · cases e
    · rename_i c
      injection e with e
      subst e
      have c1 : z.1 ≤ 1 := by have : ¬ 1 < z.1 := fun q => c (.inl q); omega
      have c2 : t ∉ z.2.2.1 := fun q => c (.inr q)
      have e2 := h.p1 c1
      refine ⟨?_, fun q => absurd (show (1 : Nat) = 0 from q) (by decide), fun _ => e2, h.mb, all_snoc h.ms ht, h.me, h.nb, nd_snoc h.ns c2, h.ne⟩
      rw [h.rows, er]
      dsimp only
      rw [e2]
      simp only [List.map_nil, List.append_nil, List.map_append, List.map_cons, List.append_assoc]
  · rename_i m em
    obtain ⟨hm, er⟩ := rowL_inv em
    split at e
    · cases e
    · rename_i c
      injection e with e
      subst e
      refine ⟨?_, fun q => absurd (show (2 : Nat) = 0 from q) (by decide), fun q => absurd (show (2 : Nat) ≤ 1 from q) (by decide), h.mb, h.ms, all_snoc h.me hm, h.nb, h.ns, nd_snoc h.ne c⟩
      rw [h.rows, er]
      simp only [List.map_nil, List.map_append, List.map_cons, List.append_assoc]
  · cases e
theorem LI.fold {g : Str} {r : Int} : ∀ (rows pre : List Str) (z z' : Qud), LI g r pre z → rows.foldlM (stL g r) z = some z' → LI g r (pre ++ rows) z'
  | [], pre, z, z', h, e => by
    have e : some z = some z' := e
    injection e with e
    subst e
    rw [List.append_nil]; exact h
  | row :: rows, pre, z, z', h, e => by
    rw [List.foldlM_cons] at e
    cases e1 : stL g r z row with
    | none => rw [e1] at e; cases e
    | some z1 =>
      rw [e1] at e
      have := LI.fold rows (pre ++ [row]) z1 z' (h.step e1) e
      rw [List.append_assoc] at this
      exact this
theorem RL_inv {x : Str} {s : Scr} (h : RL x = some s) : Gd s ∧ shown s = x := by
  have ej := join_lns x
  unfold RL at h
  split at h
  · cases h
  · rename_i hd rows el
    rw [el] at ej
    split at h
    · rename_i g r eh
      obtain ⟨z, ez, h⟩ := Option.map_eq_some_iff.mp h
      subst h
      obtain ⟨h1, h2, h3, h4, h5, h6⟩ := headL_inv eh
      have li := LI.fold rows [] ((0, [], [], []) : Qud) z ⟨rfl, fun _ => rfl, fun _ => rfl, (fun _ h => nomatch h), (fun _ h => nomatch h), (fun _ h => nomatch h), List.nodup_nil, List.nodup_nil, List.nodup_nil⟩ ez
      rw [List.nil_append] at li
      refine ⟨⟨li.mb, li.ms, li.me, li.nb, li.ns, li.ne, h2, h3, h4, h5, h6⟩, ?_⟩
      unfold shown
      rw [rows_cons]
      dsimp only
      rw [← li.rows, ← ej, h1]
      rfl
    · cases h
theorem RL_iff {x : Str} {s : Scr} : RL x = some s ↔ Gd s ∧ shown s = x := ⟨RL_inv, fun ⟨h, e⟩ => by rw [← e]; exact RL_shown h⟩
theorem RL_none {x : Str} (h : rdP (lns x) = none) : RL x = none := by
  cases e : RL x with
  | none => rfl
  | some s =>
    obtain ⟨h1, h2⟩ := RL_inv e
    rw [← h2, rdP_shown h1] at h
    cases h
theorem RL_bad {x : Str} {s : Scr} (h : rdP (lns x) = some s) (hb : ¬ (scrD (dScr s) = true ∧ shown s = x)) : RL x = none := by
  cases e : RL x with
  | none => rfl
  | some u =>
    obtain ⟨h1, h2⟩ := RL_inv e
    rw [← h2, rdP_shown h1] at h
    injection h with h
    subst h
    exact absurd ⟨h1.scr, h2⟩ hb

theorem fig_dec (c : Nat) : decide (c ∈ (Str.ofString "0123456789").cps.toList) = (decide (48 ≤ c) && decide (c ≤ 57)) := by
  have e : (Str.ofString "0123456789").cps.toList = List.range' 48 10 := dig_cl
  rw [e, Bool.eq_iff_iff, Bool.and_eq_true, decide_eq_true_eq, decide_eq_true_eq, decide_eq_true_eq, List.mem_range'_1]; omega
theorem join_len (c : Nat) : ∀ ps : List Str, (ps.map (fun p => p.length + 1)).sum ≤ (Txt.join ⟨#[c]⟩ ps).length + 1
  | [] => Nat.zero_le _
  | [p] => by rw [join1]; exact Nat.le_refl _
  | p :: q :: r => by
    have ih := join_len c (q :: r)
    have e1 : (⟨#[c]⟩ : Str).length = 1 := rfl
    rw [join2, List.map_cons, List.sum_cons, len_app, len_app, e1]
    omega
theorem sum_mem {α : Type} {f : α → Nat} {x : α} : ∀ {xs : List α}, x ∈ xs → f x ≤ (xs.map f).sum
  | y :: xs, h => by
    rw [List.map_cons, List.sum_cons]
    rcases List.mem_cons.mp h with rfl | h
    · omega
    · have := sum_mem (f := f) h; omega
theorem sum_ge {α : Type} {f : α → Nat} {n : Nat} : ∀ {xs : List α}, (∀ x ∈ xs, n ≤ f x) → n * xs.length ≤ (xs.map f).sum
  | [], _ => Nat.le_refl _
  | y :: xs, h => by
    rw [List.map_cons, List.sum_cons, List.length_cons, Nat.mul_succ]
    have := sum_ge (f := f) (n := n) fun x hx => h x (List.mem_cons_of_mem y hx)
    have := h y (List.mem_cons_self ..)
    omega
theorem spl_sum (x : Str) : ((spl x).map (fun p => p.length + 1)).sum ≤ x.length + 1 := by
  have := join_len 32 (spl x)
  rw [← sp_eq, join_spl] at this
  exact this
theorem lns_sum (x : Str) : ((lns x).map (fun p => p.length + 1)).sum ≤ x.length + 1 := by
  have := join_len 10 (lns x)
  rw [← nl_eq, join_lns] at this
  exact this
theorem spl_len {x p : Str} (h : p ∈ spl x) : p.length ≤ x.length := by
  have := spl_sum x
  have := sum_mem (f := fun p : Str => p.length + 1) h
  omega
theorem lns_len {x p : Str} (h : p ∈ lns x) : p.length ≤ x.length := by
  have := lns_sum x
  have := sum_mem (f := fun p : Str => p.length + 1) h
  omega
theorem spl_many (x : Str) : (spl x).length ≤ x.length + 1 := by
  have := spl_sum x
  have := sum_ge (f := fun p : Str => p.length + 1) (n := 1) (xs := spl x) (fun _ _ => Nat.le_add_left ..)
  omega
theorem lns_many (x : Str) : (lns x).length ≤ x.length + 1 := by
  have := lns_sum x
  have := sum_ge (f := fun p : Str => p.length + 1) (n := 1) (xs := lns x) (fun _ _ => Nat.le_add_left ..)
  omega
theorem numP_pos {n : Str} {k : Nat} (h : numP n = some k) : 1 ≤ n.length := by
  unfold numP at h
  split at h
  · rename_i c; exact c.1.1
  · cases h
theorem rdW_len (w : Str) : (rdW w).length ≤ w.length := by
  unfold rdW
  split
  · show 0 ≤ _; exact Nat.zero_le _
  · exact Nat.le_refl _
theorem rdM_small {row : Str} {m : Mk} (h : rdM row = some m) : m.2.length ≤ row.length ∧ 3 ≤ row.length := by
  unfold rdM at h
  split at h
  · rename_i k n w es
    obtain ⟨j, ej, h⟩ := Option.map_eq_some_iff.mp h
    subst h
    have h1 := numP_pos ej
    have h2 := spl_sum row
    have h3 := rdW_len w
    rw [es] at h2
    simp only [List.map_cons, List.map_nil, List.sum_cons, List.sum_nil] at h2
    exact ⟨by show (rdW w).length ≤ _; omega, by omega⟩
  · cases h
theorem rdS_small {row : Str} {t : Stp} (h : rdS row = some t) : t.2.1.length ≤ row.length ∧ t.2.2.1.length ≤ row.length ∧ 3 ≤ row.length := by
  unfold rdS at h
  split at h
  · rename_i k a g w b es
    split at h
    · rename_i i ei
      obtain ⟨j, ej, h⟩ := Option.map_eq_some_iff.mp h
      subst h
      have h1 := numP_pos ej
      have h2 := spl_sum row
      have h3 := rdW_len w
      rw [es] at h2
      simp only [List.map_cons, List.map_nil, List.sum_cons, List.sum_nil] at h2
      exact ⟨by show g.length ≤ _; omega, by show (rdW w).length ≤ _; omega, by omega⟩
    · cases h
  · cases h
def SmT (L : Nat) (z : Tri) : Prop := (∀ m ∈ z.1, m.2.length ≤ L) ∧ (∀ t ∈ z.2.1, t.2.1.length ≤ L ∧ t.2.2.1.length ≤ L) ∧ ∀ m ∈ z.2.2, m.2.length ≤ L
theorem stP_small {L : Nat} {z z' : Tri} {row : Str} (hr : row.length ≤ L) (hz : SmT L z) (h : stP z row = some z') : SmT L z' ∧ z'.1.length + z'.2.1.length + z'.2.2.length = z.1.length + z.2.1.length + z.2.2.length + 1 ∧ 3 ≤ row.length := by
  obtain ⟨z1, z2, z3⟩ := hz
  unfold stP at h
  split at h
  · obtain ⟨m, em, h⟩ := Option.map_eq_some_iff.mp h
    subst h
    obtain ⟨a, b⟩ := rdM_small em
    exact ⟨⟨all_snoc z1 (by omega), z2, z3⟩, by simp only [List.length_append, List.length_singleton]; omega, b⟩
  · split at h
    · obtain ⟨m, em, h⟩ := Option.map_eq_some_iff.mp h
      subst h
      obtain ⟨a, b, c⟩ := rdS_small em
      exact ⟨⟨z1, all_snoc z2 ⟨by omega, by omega⟩, z3⟩, by simp only [List.length_append, List.length_singleton]; omega, c⟩
    · obtain ⟨m, em, h⟩ := Option.map_eq_some_iff.mp h
      subst h
      obtain ⟨a, b⟩ := rdM_small em
      exact ⟨⟨z1, z2, all_snoc z3 (by omega)⟩, by simp only [List.length_append, List.length_singleton]; omega, b⟩
theorem fold_small {L : Nat} : ∀ (rows : List Str) (z z' : Tri), (∀ row ∈ rows, row.length ≤ L) → SmT L z → rows.foldlM stP z = some z' → SmT L z' ∧ z'.1.length + z'.2.1.length + z'.2.2.length = z.1.length + z.2.1.length + z.2.2.length + rows.length ∧ ∀ row ∈ rows, 3 ≤ row.length
  | [], z, z', _, hz, h => by
    have h : some z = some z' := h
    injection h with h
    subst h
    exact ⟨hz, rfl, fun _ h => nomatch h⟩
  | row :: rows, z, z', hr, hz, h => by
    rw [List.foldlM_cons] at h
    cases e1 : stP z row with
    | none => rw [e1] at h; cases h
    | some z1 =>
      rw [e1] at h
      obtain ⟨a, b, c⟩ := stP_small (hr row (List.mem_cons_self ..)) hz e1
      obtain ⟨a2, b2, c2⟩ := fold_small rows z1 z' (fun x hx => hr x (List.mem_cons_of_mem _ hx)) a h
      refine ⟨a2, by rw [List.length_cons]; omega, fun x hx => ?_⟩
      rcases List.mem_cons.mp hx with rfl | hx
      · exact c
      · exact c2 x hx
structure Sm (s : Scr) : Prop where
  lb : s.begins.length ≤ 990
  ls : s.steps.length ≤ 990
  le : s.ends.length ≤ 990
  s2 : s.signs.length ≤ 3900
  wb : ∀ m ∈ s.begins, m.2.length ≤ 3900
  ws : ∀ t ∈ s.steps, t.2.1.length ≤ 3900 ∧ t.2.2.1.length ≤ 3900
  we : ∀ m ∈ s.ends, m.2.length ≤ 3900
theorem rdP_cons {h : Str} {rest : List Str} {g n : Str} (e : spl h = [g, n]) : rdP (h :: rest) = match rest.foldlM stP (([], [], []) : Tri) with
    | some z => (numP n).map fun (k : Nat) => ⟨g, (k : Int), z.1, z.2.1, z.2.2⟩
    | none => none := by
  unfold rdP
  dsimp only
  rw [e]
theorem rdP_len {h : Str} {rest : List Str} (e : (spl h).length ≠ 2) : rdP (h :: rest) = none := by
  unfold rdP
  dsimp only
  split
  · rename_i g n es
    rw [es] at e; exact absurd rfl e
  · rfl
theorem len2 {α : Type} {xs : List α} (h : xs.length = 2) : ∃ a b, xs = [a, b] := by
  match xs, h with
  | [a, b], _ => exact ⟨a, b, rfl⟩
theorem len3 {α : Type} {xs : List α} (h : xs.length = 3) : ∃ a b c, xs = [a, b, c] := by
  match xs, h with
  | [a, b, c], _ => exact ⟨a, b, c, rfl⟩
theorem len5 {α : Type} {xs : List α} (h : xs.length = 5) : ∃ a b c e f, xs = [a, b, c, e, f] := by
  match xs, h with
  | [a, b, c, e, f], _ => exact ⟨a, b, c, e, f, rfl⟩
theorem rdM_len {row : Str} (e : (spl row).length ≠ 3) : rdM row = none := by
  unfold rdM
  split
  · rename_i a b c es
    rw [es] at e; exact absurd rfl e
  · rfl
theorem rdM_is {row k n w : Str} (e : spl row = [k, n, w]) : rdM row = (numP n).map fun (k : Nat) => ((k : Int), rdW w) := by
  unfold rdM; rw [e]
theorem rdS_len {row : Str} (e : (spl row).length ≠ 5) : rdS row = none := by
  unfold rdS
  split
  · rename_i es
    rw [es] at e; exact absurd rfl e
  · rfl
theorem rdS_is {row k a g w b : Str} (e : spl row = [k, a, g, w, b]) : rdS row = match numP a with
    | some i => (numP b).map fun (j : Nat) => ((i : Int), g, rdW w, (j : Int))
    | none => none := by
  unfold rdS; rw [e]
theorem rdP_small {x : Str} {s : Scr} (hx : x.length ≤ 3900) (h : rdP (lns x) = some s) : Sm s := by
  have h2 := lns_sum x
  have h3 : ∀ p ∈ lns x, p.length ≤ 3900 := fun p hp => Nat.le_trans (lns_len hp) hx
  cases el : lns x with
  | nil => rw [el] at h; cases h
  | cons hd rest =>
    rw [el] at h h2 h3
    by_cases c : (spl hd).length = 2
    · obtain ⟨g, n, e⟩ := len2 c
      rw [rdP_cons e] at h
      split at h
      · rename_i z ez
        obtain ⟨k, ek, h⟩ := Option.map_eq_some_iff.mp h
        subst h
        obtain ⟨⟨a1, a2, a3⟩, b, d⟩ := fold_small (L := 3900) rest _ z (fun row hr => h3 row (List.mem_cons_of_mem _ hr)) ⟨fun _ h => absurd h List.not_mem_nil, fun _ h => absurd h List.not_mem_nil, fun _ h => absurd h List.not_mem_nil⟩ ez
        have h4 := sum_ge (f := fun p : Str => p.length + 1) (n := 4) (xs := rest) (fun row hr => by have := d row hr; omega)
        rw [List.map_cons, List.sum_cons] at h2
        simp only [List.length_nil] at b
        have h5 : g.length ≤ hd.length := spl_len (by rw [e]; exact List.mem_cons_self ..)
        have h6 := h3 hd (List.mem_cons_self ..)
        exact ⟨by show z.1.length ≤ 990; omega, by show z.2.1.length ≤ 990; omega, by show z.2.2.length ≤ 990; omega, by show g.length ≤ 3900; omega, a1, a2, a3⟩
      · cases h
    · rw [rdP_len c] at h; cases h
theorem Sm.small {s : Scr} (o : Sm s) : small (dScr s) := by
  unfold dScr
  simp only [_root_.My.small, smalls]
  have := o.lb; have := o.ls; have := o.le; have := o.s2
  refine ⟨by omega, trivial, ⟨by rw [List.length_map]; omega, smalls_of fun d hd => ?_⟩, ⟨by rw [List.length_map]; omega, smalls_of fun d hd => ?_⟩, ⟨by rw [List.length_map]; omega, smalls_of fun d hd => ?_⟩, trivial⟩
  · obtain ⟨m, hm, rfl⟩ := List.mem_map.mp hd
    exact small_mk (by have := o.wb m hm; omega)
  · obtain ⟨t, ht, rfl⟩ := List.mem_map.mp hd
    have := o.ws t ht
    exact small_st (by omega) (by omega)
  · obtain ⟨m, hm, rfl⟩ := List.mem_map.mp hd
    exact small_mk (by have := o.we m hm; omega)
theorem Gd.sm {s : Scr} (h : Gd s) (o : Sm s) : Ok86 3900 990 s := h.okOf o.wb (fun t ht => (o.ws t ht).2) o.we o.s2 o.lb o.ls o.le
theorem fold_take {α β : Type} {f : β → α → Option β} {z0 z : β} {xs : List α} {i : Nat} {x : α} (h : xs[i]? = some x) (e : (xs.take i).foldlM f z0 = some z) : (xs.take (i + 1)).foldlM f z0 = f z x := by
  rw [take_get h, List.foldlM_append, e]
  show (f z x >>= fun y => pure y) = f z x
  cases f z x <;> rfl
theorem fold_none {α β : Type} {f : β → α → Option β} {z0 : β} {xs : List α} {i : Nat} (e : (xs.take i).foldlM f z0 = none) : xs.foldlM f z0 = none := by
  have : xs = xs.take i ++ xs.drop i := (List.take_append_drop i xs).symm
  rw [this, List.foldlM_append, e]; rfl
def spParts (c : Addr) : Sp := fun vs H Q E => ∃ (x : Str) (n : Nat), vs = [.str x, .int (n : Int)] ∧ x.length ≤ 3900 ∧ ((spl x).length = n → ∀ l H', Same H H' → H l = none → H' l = some (.lst ((spl x).map V.str)) → Q (.ref l) H') ∧ ((spl x).length ≠ n → ∀ H', Same H H' → E (.ref c) none H')
def spNum (c : Addr) : Sp := fun vs H Q E => ∃ x : Str, vs = [.str x] ∧ x.length ≤ 3900 ∧ (∀ k : Nat, numP x = some k → ∀ H', Same H H' → Q (.int (k : Int)) H') ∧ (numP x = none → ∀ H', Same H H' → E (.ref c) none H')
def spRdW : Sp := fun vs H Q _ => ∃ x : Str, vs = [.str x] ∧ Q (.str (rdW x)) H
def spRdM (c : Addr) : Sp := fun vs H Q E => ∃ x : Str, vs = [.str x] ∧ x.length ≤ 3900 ∧ (∀ m : Mk, rdM x = some m → ∀ b H', Same H H' → H b = none → H' b = some (.tup [.int m.1, .str m.2]) → Q (.ref b) H') ∧ (rdM x = none → ∀ H', Same H H' → E (.ref c) none H')
def spRdS (c : Addr) : Sp := fun vs H Q E => ∃ x : Str, vs = [.str x] ∧ x.length ≤ 3900 ∧ (∀ t : Stp, rdS x = some t → ∀ b H', Same H H' → H b = none → H' b = some (.tup [.int t.1, .str t.2.1, .str t.2.2.1, .int t.2.2.2]) → Q (.ref b) H') ∧ (rdS x = none → ∀ H', Same H H' → E (.ref c) none H')
def spRows (K : PySem.W.Frag) (c : Addr) : Sp := fun vs H Q E => ∃ (p : Addr) (rows : List Str), vs = [.ref p] ∧ SqL K H p (rows.map V.str) ∧ rows ≠ [] ∧ rows.length ≤ 3901 ∧ (∀ row ∈ rows, row.length ≤ 3900) ∧ (∀ s, rdP rows = some s → ∀ v H' pb ps pe, Same H H' → ScN K H' s v pb ps pe → Apart H pb ps pe → Q v H') ∧ (rdP rows = none → ∀ H', Same H H' → E (.ref c) none H')
def spRead (K : PySem.W.Frag) (c : Addr) : Sp := fun vs H Q E => ∃ x : Str, vs = [.str x] ∧ x.length ≤ 3900 ∧ (∀ s, RL x = some s → Ok86 3900 990 s → ∀ v H' pb ps pe, Same H H' → ScN K H' s v pb ps pe → Apart H pb ps pe → Q v H') ∧ (RL x = none → ∀ H', Same H H' → E (.ref c) none H')

def spDraw86 (K : PySem.W.Frag) : Sp := fun vs H Q _ => ∃ (a : Addr) (ns : List Int) (salt most : Int), vs = [.ref a, .int salt, .int most] ∧ SqL K H a (ns.map V.int) ∧ ns.length ≤ 63 ∧ 0 ≤ salt ∧ salt ≤ 8000 ∧ 0 ≤ most ∧ most ≤ 14 ∧ ∀ v H' s pb ps pe, Same H H' → ScV K H' s v pb ps pe → Ok86 40 15 s → Q v H'
def spLS86 (K : PySem.W.Frag) : Sp := fun vs H Q _ => ∃ v s pb ps pe, vs = [v] ∧ ScV K H s v pb ps pe ∧ Ok86 40 15 s ∧ ∀ l H', Same H H' → H l = none → H' l = some (.lst ((rowsOf s).map V.str)) → Q (.ref l) H'
def spLNum : Sp := fun vs H Q _ => ∃ x : Str, vs = [.str x] ∧ x.length ≤ 3900 ∧ Q (.int (numL x)) H
def spLet : Sp := fun vs H Q _ => ∃ x : Str, vs = [.str x] ∧ x.length ≤ 3900 ∧ ∀ H', Same H H' → Q (.bl (wordS x)) H'
def spPair (K : PySem.W.Frag) : Sp := fun vs H Q _ => ∃ (p : Addr) (a w : Str) (r : Int), vs = [.ref p, .int r] ∧ SqL K H p [.str a, .str w] ∧ a.length ≤ 3900 ∧ w.length ≤ 3900 ∧ (pairL r a w = none → ∀ H', Same H H' → Q .non H') ∧ (∀ m, pairL r a w = some m → ∀ b H', Same H H' → H' b = some (.tup [.int m.1, .str m.2]) → Q (.ref b) H')
def spRow (K : PySem.W.Frag) : Sp := fun vs H Q _ => ∃ (row g : Str) (r : Int), vs = [.str row, .str g, .int r] ∧ row.length ≤ 3900 ∧ g.length ≤ 3900 ∧ (rowL g r row = none → ∀ H', Same H H' → Q .non H') ∧
  (∀ (f : Bool) m, rowL g r row = some (.inl (f, m)) → ∀ l b H', Same H H' → H' l = some (.lst [.int (if f = true then 2 else 0), .ref b]) → H' b = some (.tup [.int m.1, .str m.2]) → Q (.ref l) H') ∧
  (∀ t, rowL g r row = some (.inr t) → ∀ l b H', Same H H' → H' l = some (.lst [.int 1, .ref b]) → H' b = some (.tup [.int t.1, .str t.2.1, .str t.2.2.1, .int t.2.2.2]) → Q (.ref l) H')
def spReader (K : PySem.W.Frag) : Sp := fun vs H Q _ => ∃ (x : Str), vs = [.str x] ∧ x.length ≤ 3900 ∧ (RL x = none → ∀ H', Same H H' → Q .non H') ∧ (∀ s, RL x = some s → ∀ v H' pb ps pe, Same H H' → ScV K H' s v pb ps pe → Q v H')
structure Rws (n m k : Nat) (rows : List Str) : Prop where
  l0 : rows ≠ []
  l1 : rows.length ≤ n
  sm : (rows.map (·.length)).sum ≤ m
  ea : ∀ r ∈ rows, r.length ≤ k
def spLong (K : PySem.W.Frag) : Sp := fun vs H Q _ => ∃ (p : Addr) (s : Scr) (n : Int), vs = [.ref p, .int n] ∧ SqL K H p ((rowsOf s).map V.str) ∧ Ok86 40 15 s ∧ 1 < (rowsOf s).length ∧ 0 ≤ n ∧ n < 2147483587 ∧ ∀ l rows H', Same H H' → H' l = some (.lst (rows.map V.str)) → Rws 46 3276 520 rows → (∃ h, h ∈ rows ∧ 1 ≤ h.length) → Q (.ref l) H'
def spBent (K : PySem.W.Frag) : Sp := fun vs H Q _ => ∃ (p : Addr) (rows : List Str) (n m : Int), vs = [.ref p, .int n, .int m] ∧ SqL K H p (rows.map V.str) ∧ Rws 46 3276 520 rows ∧ 0 ≤ n ∧ n < 2147483587 ∧ 0 ≤ m ∧ m < 2147483587 ∧ ∀ l rows' H', Same H H' → H' l = some (.lst (rows'.map V.str)) → Rws 47 3800 1100 rows' → Q (.ref l) H'
def spSigB : Sp := fun vs H Q _ => ∃ (x : Str) (n m : Int), vs = [.str x, .int n, .int m] ∧ 1 ≤ x.length ∧ x.length ≤ 3880 ∧ 0 ≤ n ∧ n < 2147483587 ∧ 0 ≤ m ∧ m < 2147483587 ∧ ∀ y : Str, y.length ≤ x.length + 1 → Q (.str y) H

theorem str_nil {x : Str} : x = Str.ofString "" ↔ x.length = 0 := by
  constructor
  · rintro rfl; rfl
  · intro h
    refine str_ext ?_
    rw [cl_emp]
    exact List.length_eq_zero_iff.mp (by rw [cl_length]; exact h)
theorem val_snoc (xs : List Nat) (c : Nat) : NumText.digitsVal (xs ++ [c]) = NumText.digitsVal xs * 10 + (c - 48) := by
  unfold NumText.digitsVal
  rw [List.foldl_append]; rfl
theorem zero_eq : Str.ofString "0" = ⟨#[48]⟩ := by decide +kernel
theorem one_inj {a b : Nat} : (⟨#[a]⟩ : Str) = ⟨#[b]⟩ ↔ a = b := by
  constructor
  · intro z
    injection z with z
    injection z with z
    injection z with z
  · rintro rfl; rfl
theorem numL_bad {x : Str} (h : x.length = 0 ∨ 3 < x.length ∨ (1 < x.length ∧ (cl x).head? = some 48)) : numL x = -1 := by unfold numL; rw [if_pos h]
theorem numL_dig {x : Str} (h : digB x = false) : numL x = -1 := by
  unfold numL
  split
  · rfl
  · rw [h, if_neg Bool.false_ne_true]
theorem numL_good {x : Str} (h : ¬ (x.length = 0 ∨ 3 < x.length ∨ (1 < x.length ∧ (cl x).head? = some 48))) (hd : digB x = true) : numL x = (valD x : Int) := by
  unfold numL; rw [if_neg h, if_pos hd]
theorem abc_dec (c : Nat) : decide (c ∈ (Str.ofString "abcdefghijklmnopqrstuvwxyz").cps.toList) = (decide (97 ≤ c) && decide (c ≤ 122)) := by
  have e : (Str.ofString "abcdefghijklmnopqrstuvwxyz").cps.toList = List.range' 97 26 := by decide +kernel
  rw [e, Bool.eq_iff_iff, Bool.and_eq_true, decide_eq_true_eq, decide_eq_true_eq, decide_eq_true_eq, List.mem_range'_1]; omega
theorem filt_nil {α : Type} {f : α → Bool} {xs : List α} : decide ((xs.filter fun c => !f c).length = 0) = xs.all f := by
  rw [Bool.eq_iff_iff, decide_eq_true_eq, List.length_eq_zero_iff, List.filter_eq_nil_iff, List.all_eq_true]
  exact ⟨fun h x hx => by have := h x hx; cases e : f x with
    | true => rfl
    | false => rw [e] at this; exact absurd rfl this, fun h x hx => by rw [h x hx]; decide⟩
theorem nd_lt {x : Str} : decide (((ndist (cl x).reverse : Nat) : Int) < (x.length : Int)) = !decide (cl x).Nodup := by
  rw [← nodup_dec, cl_length]
  have h := ndist_le (cl x).reverse
  rw [List.length_reverse, cl_length] at h
  by_cases c : ndist (cl x).reverse = x.length
  · rw [decide_eq_true c, decide_eq_false (by omega)]; rfl
  · rw [decide_eq_false c, decide_eq_true (by omega)]; rfl
theorem rdW_of {y : Str} (h : y ≠ Str.ofString "-") : rdW y = y := if_neg h
theorem dash_no {y : Str} (h : wordS y = true) : 45 ∉ cl y := fun z => by have := wordS_iff.mp h 45 z; omega

theorem rowL_5 {g row k a y w b : Str} {r : Int} (e : spl row = [k, a, y, w, b]) : rowL g r row = if k = "step" ∧ y.length = 1 ∧ inS y g = true then (match pairL r a w with
      | some m => if numL b < 0 ∨ r ≤ numL b then none else some (.inr (m.1, y, m.2, numL b))
      | none => none) else none := by
  unfold rowL; rw [e]
theorem rowL_3 {g row k a w : Str} {r : Int} (e : spl row = [k, a, w]) : rowL g r row = if k = "begin" then (pairL r a w).map fun m => .inl (false, m) else if k = "end" then (pairL r a w).map fun m => .inl (true, m) else none := by
  unfold rowL; rw [e]
theorem rowL_no {g row : Str} {r : Int} (h5 : (spl row).length ≠ 5) (h3 : (spl row).length ≠ 3) : rowL g r row = none := by
  unfold rowL
  split
  · rename_i es
    rw [es] at h5; exact absurd rfl h5
  · rename_i es
    rw [es] at h3; exact absurd rfl h3
  · rfl
theorem hd_of {xs : List Str} (h : xs ≠ []) : ∃ k t, xs = k :: t := by
  cases xs with
  | nil => exact absurd rfl h
  | cons k t => exact ⟨k, t, rfl⟩
theorem ne_es : Str.ofString "end" ≠ Str.ofString "step" := by decide +kernel
theorem cut13 {x y z : V} : cutV [x, y, z] (some 1) none = [y, z] := cut1
theorem len_dec {n m : Nat} (h : V.int (n : Int) = V.int (m : Int)) : n = m := by injection h with h; omega

theorem set_sum {i : Nat} {x : Str} : ∀ (rows : List Str) (i : Nat), ((rows.set i x).map (·.length)).sum ≤ (rows.map (·.length)).sum + x.length
  | [], i => by rw [List.set_nil]; omega
  | r :: rows, 0 => by rw [List.set_cons_zero, List.map_cons, List.map_cons, List.sum_cons, List.sum_cons]; omega
  | r :: rows, i + 1 => by
    have := set_sum (i := i) (x := x) rows i
    rw [List.set_cons_succ, List.map_cons, List.map_cons, List.sum_cons, List.sum_cons]; omega
theorem join_sp (ps : List Str) : (Txt.join (Str.ofString " ") ps).length ≤ (ps.map (·.length)).sum + ps.length := by
  have e1 : (Str.ofString " ").length = 1 := by decide +kernel
  have := StrLaws.join_length_le (Str.ofString " ") ps
  rw [e1] at this
  rw [show Txt.join (Str.ofString " ") ps = Str.join (Str.ofString " ") ps from StrLaws.glued_eq_join _ _]
  omega
theorem rows_rws {s : Scr} (ok : Ok86 40 15 s) : Rws 46 2760 60 (rowsOf s) := by
  have z1 := sum_le (rows_len ok)
  have z2 := rows_many ok
  exact ⟨(fun z => nomatch z), by omega, by omega, rows_len ok⟩
theorem row0_pos {s : Scr} (ok : Ok86 40 15 s) : 1 ≤ (row0 s).length := by
  unfold row0
  rw [join2, len_app, len_app]
  have := ok.s1
  omega
theorem ixN_ok {n j : Nat} (h : j < n) : ixN n (j : Int) = some j := by
  unfold ixN
  simp; omega
theorem tail_row {s : Scr} (ok : Ok86 40 15 s) {i : Nat} {row : Str} (h : (rowsOf s)[1 + i]? = some row) : (∃ k a y, spl row = [k, a, y] ∧ k ≠ Str.ofString "step" ∧ k.length ≤ 5 ∧ a.length ≤ 3) ∨ ∃ a y y2 b, spl row = [Str.ofString "step", a, y, y2, b] ∧ a.length ≤ 3 ∧ y.length = 1 ∧ b.length ≤ 3 := by
  rw [rows_cons, Nat.add_comm, List.getElem?_cons_succ] at h
  have hm := List.mem_of_getElem? h
  simp only [List.mem_append, List.mem_map] at hm
  rcases hm with (⟨m, hm, rfl⟩ | ⟨t, ht, rfl⟩) | ⟨m, hm, rfl⟩
  · have mo := ok.mb m hm
    exact .inl ⟨_, _, _, spl_M (by decide +kernel) mo, ne_bs, by decide +kernel, (num_len (by have := mo.1; have := mo.2.1; omega)).2⟩
  · have mo := ok.ms t ht
    obtain ⟨c, _, _, ec⟩ := mo.2.2.2.2.2
    exact .inr ⟨_, _, _, _, spl_S mo, (num_len (by have := mo.1; have := mo.2.1; omega)).2, by rw [ec]; rfl, (num_len (by have := mo.2.2.1; have := mo.2.2.2.1; omega)).2⟩
  · have mo := ok.me m hm
    exact .inl ⟨_, _, _, spl_M (by decide +kernel) mo, ne_es, by decide +kernel, (num_len (by have := mo.1; have := mo.2.1; omega)).2⟩
theorem map_set {rows : List Str} {i : Nat} {x : Str} : (rows.map V.str).set i (.str x) = (rows.set i x).map V.str := (List.map_set ..).symm

theorem set_sumE {x y : Str} : ∀ (rows : List Str) (i : Nat), rows[i]? = some y → ((rows.set i x).map (·.length)).sum + y.length = (rows.map (·.length)).sum + x.length
  | [], i, h => by rw [List.getElem?_nil] at h; cases h
  | r :: rows, 0, h => by
    rw [List.getElem?_cons_zero] at h
    injection h with h
    rw [List.set_cons_zero, List.map_cons, List.map_cons, List.sum_cons, List.sum_cons, h]; omega
  | r :: rows, i + 1, h => by
    rw [List.getElem?_cons_succ] at h
    have := set_sumE (x := x) rows i h
    rw [List.set_cons_succ, List.map_cons, List.map_cons, List.sum_cons, List.sum_cons]; omega
theorem sum_succ (ps : List Str) : (ps.map (fun p => p.length + 1)).sum = (ps.map (·.length)).sum + ps.length := by
  induction ps with
  | nil => rfl
  | cons p ps ih => rw [List.map_cons, List.sum_cons, List.map_cons, List.sum_cons, List.length_cons, ih]; omega
theorem atI_map {α β : Type} {f : α → β} {xs : List α} {i : Int} {v : α} (h : atI xs i = some v) : atI (xs.map f) i = some (f v) := by
  unfold atI at h ⊢
  rw [List.length_map]
  cases e : ixN xs.length i with
  | none => rw [e] at h; cases h
  | some j =>
    rw [e] at h
    have h : xs[j]? = some v := h
    show (xs.map f)[j]? = some (f v)
    rw [List.getElem?_map, h]; rfl
def odds : List Str := ["", "00", "01", "-1", "+1", "1_0", "200", "201", "1000", "0", "-", "A", "a-", "begin", "step", "end"]
theorem odds_len : ∀ o ∈ odds, o.length ≤ 5 := by decide +kernel
theorem Rws.weak {rows : List Str} (h : Rws 46 3276 520 rows) : Rws 47 3800 1100 rows := ⟨h.l0, by have := h.l1; omega, by have := h.sm; omega, fun r hr => by have := h.ea r hr; omega⟩
theorem sum_ins (rows : List Str) (k : Nat) (x : Str) : ((rows.take k ++ x :: rows.drop k).map (·.length)).sum = (rows.map (·.length)).sum + x.length := by
  have e : (rows.map (·.length)).sum = ((rows.take k).map (·.length)).sum + ((rows.drop k).map (·.length)).sum := by
    rw [← List.sum_append, ← List.map_append, List.take_append_drop]
  rw [e, List.map_append, List.map_cons, List.sum_append, List.sum_cons]; omega
theorem set_ne {rows : List Str} {i : Nat} {x : Str} (h : rows ≠ []) : rows.set i x ≠ [] := fun z => h (by
  have := congrArg List.length z
  rw [List.length_set] at this
  exact List.length_eq_zero_iff.mp this)
theorem set_all {rows : List Str} {i k : Nat} {x : Str} (h : ∀ r ∈ rows, r.length ≤ k) (hx : x.length ≤ k) : ∀ r ∈ rows.set i x, r.length ≤ k := fun r hr => by
  rcases List.mem_or_eq_of_mem_set hr with hr | hr
  · exact h r hr
  · rw [hr]; exact hx
theorem sl_to {z : Str} {j : Nat} : (Txt.slice z none (some (j : Int))).length ≤ j ∧ (Txt.slice z none (some (j : Int))).length ≤ z.length := by
  rw [← cl_length, cut_any (by omega), List.length_take, cl_length]
  exact ⟨by omega, by omega⟩
theorem sl_from {z : Str} {j : Nat} : (Txt.slice z (some (j : Int)) none).length ≤ z.length - j := by
  rw [← cl_length, cl_slice, HT.sIx_nat, HT.sIx_none, List.length_take, List.length_drop, cl_length]
  omega
theorem sl_mid {z : Str} {i j : Nat} : (Txt.slice z (some (i : Int)) (some (j : Int))).length ≤ j - i := by
  rw [← cl_length, cl_slice, HT.sIx_nat, HT.sIx_nat, List.length_take, List.length_drop, cl_length]
  omega

theorem bt_ValueError : bootBuiltins "ValueError" = some (.type "ValueError") := by decide +kernel
def spAlone (K : PySem.W.Frag) (c : Addr) : Sp := fun vs H Q _ => ∃ x, vs = [.ref x] ∧ H x = some (Exc x c) ∧ ∀ H', Same H H' → Q (.bl true) H'
def bsA : List Bool := [false, false, false, false, false, false, false, true]
def spLaw (K : PySem.W.Frag) : Sp := fun vs H Q _ => ∃ (a : Addr) (ns : List Int), vs = [.ref a] ∧ SqL K H a (ns.map V.int) ∧ ns.length ≤ 63 ∧ ∀ H', Q (.bl true) H'
theorem join_nl (ps : List Str) : (Txt.join (Str.ofString "\n") ps).length ≤ (ps.map (·.length)).sum + ps.length := by
  have e1 : (Str.ofString "\n").length = 1 := by decide +kernel
  have := StrLaws.join_length_le (Str.ofString "\n") ps
  rw [e1] at this
  rw [show Txt.join (Str.ofString "\n") ps = Str.join (Str.ofString "\n") ps from StrLaws.glued_eq_join _ _]
  omega
theorem join_pos {ps : List Str} (h : ∃ r, r ∈ ps ∧ 1 ≤ r.length) : 1 ≤ (Txt.join (Str.ofString "\n") ps).length := by
  obtain ⟨r, hr, h1⟩ := h
  have h2 := join_len 10 ps
  rw [← nl_eq] at h2
  have := sum_mem (f := fun p : Str => p.length + 1) hr
  omega
theorem Rws.wide {s : Scr} (ok : Ok86 40 15 s) : Rws 46 3276 520 (rowsOf s) := by
  have h := rows_rws ok
  exact ⟨h.l0, h.l1, by have := h.sm; omega, fun r hr => by have := h.ea r hr; omega⟩
theorem head_row {s : Scr} (ok : Ok86 40 15 s) : ∃ r, r ∈ rowsOf s ∧ 1 ≤ r.length := ⟨row0 s, by rw [rows_cons]; exact List.mem_cons_self .., row0_pos ok⟩

section
seal L2.PE L2.PT L2.PW L2.PA L2.PS L2.PSs L2.PC L2.PG L2.PGs L2.PI L2.PO
variable {P : Program} {w : World} {K : PySem.W.Frag} {mg : Str → Option Value} {base : Heap}
theorem sc_is_tuple_of : FnScope ["thing", "count"] ["thing", "count"] (defScope s_is_tuple_of) := ⟨rfl, rfl, rfl, by decide +kernel, rfl, by decide +kernel, by decide +kernel⟩
theorem ok_is_tuple_of (B : Bi mg) {c_ScribeError c_NoWay c_NoRoom c_NotPlain c_OtherSigns c_TooMany c_TwoWays c_NeverPlain c_NoText : Addr} (XB : Xb K mg c_ScribeError c_NoWay c_NoRoom c_NotPlain c_OtherSigns c_TooMany c_TwoWays c_NeverPlain c_NoText)  {f : Addr} {fd : FuncData} (F : Fun K "is_tuple_of" "is_tuple_of" s_is_tuple_of f fd) : FnOk P w K mg base CX0 1 f fd ["thing", "count"] (spTupOf K) := by
  refine F.ok sc_is_tuple_of (fun vs H Q E h => ?_) (fun cdv A outer s H vs Q E hr h => ?_)
  · obtain ⟨v, d, n, rfl, _⟩ := h; rfl
  obtain ⟨v, d, n, rfl, rep, q⟩ := h
  refine ⟨_, (pss_one (ps_ret (pe_and (pe_callB (kCall (K := K) rIsD call_isinstD) (by rfl) B.isinstance bt_isinstance (pa_cons (pv 0) (pa_cons (pe_ty (by rfl) B.tuple bt_tuple) pa_nil))) (pe_one (pe_cmpR op_eq (pe_callB (CallR.or (kLen (K := K)) call_len_str) (by rfl) B.len bt_len (pa_cons (pv 0) pa_nil)) (pv 1) (nomark _)))))), ?_⟩
  refine ⟨_, rfl, v, d, "tuple", rfl, rep, .inl rfl, _, rfl, ?_⟩
  cases d with
  | tup ds =>
    refine iteT ?_
    unfold Rep at rep
    obtain ⟨a, xs, rfl, hq, rs⟩ := rep
    refine ⟨_, rfl, .inl ⟨a, xs, rfl, .inr hq, _, rfl, rfl, ?_⟩⟩
    have e : tupD (.tup ds) n = decide (V.int (xs.length : Int) = V.int n) := by
      show decide ((ds.length : Int) = n) = _
      rw [rs.length]
      exact decide_eq_decide.mpr ⟨fun h => by rw [h], fun h => by injection h⟩
    rw [e] at q
    exact q
  | _ => exact iteF q

theorem sc_is_number_below : FnScope ["thing", "bound"] ["thing", "bound"] (defScope s_is_number_below) := ⟨rfl, rfl, rfl, by decide +kernel, rfl, by decide +kernel, by decide +kernel⟩
theorem ok_is_number_below (B : Bi mg) {c_ScribeError c_NoWay c_NoRoom c_NotPlain c_OtherSigns c_TooMany c_TwoWays c_NeverPlain c_NoText : Addr} (XB : Xb K mg c_ScribeError c_NoWay c_NoRoom c_NotPlain c_OtherSigns c_TooMany c_TwoWays c_NeverPlain c_NoText)  {f : Addr} {fd : FuncData} (F : Fun K "is_number_below" "is_number_below" s_is_number_below f fd) : FnOk P w K mg base CX0 1 f fd ["thing", "bound"] (spNumB K) := by
  refine F.ok sc_is_number_below (fun vs H Q E h => ?_) (fun cdv A outer s H vs Q E hr h => ?_)
  · obtain ⟨v, d, n, rfl, _⟩ := h; rfl
  obtain ⟨v, d, n, rfl, rep, q⟩ := h
  refine ⟨_, (pss_cons (ps_if (PW.pt (pw_or (pt_not (pt_val (pe_callB (kCall (K := K) rIsD call_isinstD) (by rfl) B.isinstance bt_isinstance (pa_cons (pv 0) (pa_cons (pe_ty (by rfl) B.int bt_int) pa_nil))))) (pw_or1 (pt_val (pe_callB (kCall (K := K) rIsD call_isinstD) (by rfl) B.isinstance bt_isinstance (pa_cons (pv 0) (pa_cons (pe_ty (by rfl) B.bool bt_bool) pa_nil))))))) (pss_one (ps_ret pe_bl)) pss_nil)
      (pss_one (ps_ret (pe_chain op_le op_lt pe_int (pv 0) (pv 1))))), ?_⟩
  refine ⟨_, rfl, v, d, "int", rfl, rep, .inr (.inl rfl), _, rfl, ?_⟩
  cases d with
  | int i =>
    refine iteF ?_
    refine ⟨_, rfl, v, .int i, "bool", rfl, rep, .inr (.inr (.inl rfl)), _, rfl, iteF ?_⟩
    unfold Rep at rep
    subst rep
    refine ⟨_, rfl, _, _, rfl, rfl, _, rfl, iteDd (fun c1 => ?_) (fun c1 => ?_)⟩
    · refine ⟨_, rfl, _, _, rfl, rfl, ?_⟩
      have e : numD (.int i) n = decide (i < n) := by show (decide (0 ≤ i) && decide (i < n)) = _; rw [decide_eq_true c1, Bool.true_and]
      rw [e] at q
      exact q
    · have e : numD (.int i) n = false := by show (decide (0 ≤ i) && decide (i < n)) = _; rw [decide_eq_false c1, Bool.false_and]
      rw [e] at q
      exact q
  | bl b =>
    refine iteF ?_
    refine ⟨_, rfl, v, .bl b, "bool", rfl, rep, .inr (.inr (.inl rfl)), _, rfl, iteT ?_⟩
    exact q
  | _ => exact iteT q

theorem sc_is_word : FnScope ["thing"] ["thing"] (defScope s_is_word) := ⟨rfl, rfl, rfl, by decide +kernel, rfl, by decide +kernel, by decide +kernel⟩
theorem ok_is_word (B : Bi mg) {c_ScribeError c_NoWay c_NoRoom c_NotPlain c_OtherSigns c_TooMany c_TwoWays c_NeverPlain c_NoText : Addr} (XB : Xb K mg c_ScribeError c_NoWay c_NoRoom c_NotPlain c_OtherSigns c_TooMany c_TwoWays c_NeverPlain c_NoText)  {f : Addr} {fd : FuncData} (F : Fun K "is_word" "is_word" s_is_word f fd) : FnOk P w K mg base CX0 1 f fd ["thing"] (spIsWord K) := by
  refine F.ok sc_is_word (fun vs H Q E h => ?_) (fun cdv A outer s H vs Q E hr h => ?_)
  · obtain ⟨v, d, rfl, _⟩ := h; rfl
  obtain ⟨v, d, rfl, rep, q⟩ := h
  refine ⟨_, (pss_cons (ps_if (pt_not (pt_val (pe_callB (kCall (K := K) rIsD call_isinstD) (by rfl) B.isinstance bt_isinstance (pa_cons (pv 0) (pa_cons (pe_ty (by rfl) B.str bt_str) pa_nil))))) (pss_one (ps_ret pe_bl)) pss_nil)
      (pss_one (ps_ret (pe_or (pe_cmpR (kOp (K := K) rEqD (op_eqD hr.units)) (pv 0) pe_str (nomark _)) (pe_one (pe_and (pe_cmpR op_le_str pe_str (pe_callB (call_minS (by rfl)) (by rfl) B.min bt_min (pa_cons (pv 0) pa_nil)) (nomark _)) (pe_one (pe_cmpR op_le_str (pe_callB (call_maxS (by rfl)) (by rfl) B.max bt_max (pa_cons (pv 0) pa_nil)) pe_str (nomark _))))))))), ?_⟩
  refine ⟨_, rfl, v, d, "str", rfl, rep, .inr (.inr (.inr (.inl rfl))), _, rfl, ?_⟩
  cases d with
  | str x =>
    refine iteF ?_
    unfold Rep at rep
    subst rep
    refine ⟨_, rfl, .str x, .str "", rep_str _, rep_str _, by simp [deep], _, rfl, ?_⟩
    rw [eqD_nil]
    refine iteDd (fun c => ?_) (fun c => ?_)
    · have e : wordD (.str x) = true := by show wordS x = true; unfold wordS; rw [c]; rfl
      rw [e] at q
      exact q
    refine ⟨_, rfl, x, rfl, c, fun lo hlo hall => ⟨_, _, rfl, rfl, _, rfl, ?_⟩⟩
    have e1 : (!decide (cl (⟨#[lo]⟩ : Str) < cl ("a" : Str))) = decide (97 ≤ lo) := by
      rw [cl_one, cl_a]
      by_cases z : lo < 97
      · rw [decide_eq_true ((lt_one _ _).mpr z), decide_eq_false (by omega)]; rfl
      · rw [decide_eq_false (fun y => z ((lt_one _ _).mp y)), decide_eq_true (by omega)]; rfl
    rw [e1]
    refine iteDd (fun c1 => ?_) (fun c1 => ?_)
    · refine ⟨_, rfl, x, rfl, c, fun hi hhi hall2 => ⟨_, _, rfl, rfl, ?_⟩⟩
      have e2 : (!decide (cl ("z" : Str) < cl (⟨#[hi]⟩ : Str))) = wordD (.str x) := by
        rw [cl_one, cl_z]
        show _ = wordS x
        unfold wordS
        by_cases z : 122 < hi
        · rw [decide_eq_true ((lt_one _ _).mpr z)]
          refine (List.all_eq_false.mpr ⟨hi, hhi, ?_⟩).symm
          rw [decide_eq_false (show ¬ hi ≤ 122 by omega), Bool.and_false]; exact Bool.false_ne_true
        · rw [decide_eq_false (fun y => z ((lt_one _ _).mp y))]
          refine (List.all_eq_true.mpr fun y hy => ?_).symm
          have h1 := hall y hy
          have h2 := hall2 y hy
          rw [decide_eq_true (show 97 ≤ y by omega), decide_eq_true (show y ≤ 122 by omega)]; rfl
      show Q (.bl (!decide (cl ("z" : Str) < cl (⟨#[hi]⟩ : Str)))) H
      rw [e2]
      exact q
    · have e : wordD (.str x) = false := by
        show wordS x = false
        unfold wordS
        refine List.all_eq_false.mpr ⟨lo, hlo, ?_⟩
        rw [decide_eq_false c1]; exact Bool.false_ne_true
      rw [e] at q
      exact q
  | _ => exact iteT q

theorem sc_all_unlike : FnScope ["parts"] ["parts"] (defScope s_all_unlike) := ⟨rfl, rfl, rfl, by decide +kernel, rfl, by decide +kernel, by decide +kernel⟩
theorem ok_all_unlike (B : Bi mg) {c_ScribeError c_NoWay c_NoRoom c_NotPlain c_OtherSigns c_TooMany c_TwoWays c_NeverPlain c_NoText : Addr} (XB : Xb K mg c_ScribeError c_NoWay c_NoRoom c_NotPlain c_OtherSigns c_TooMany c_TwoWays c_NeverPlain c_NoText)  {f : Addr} {fd : FuncData} (F : Fun K "all_unlike" "all_unlike" s_all_unlike f fd) : FnOk P w K mg base CX0 1 f fd ["parts"] (spUnl K) := by
  refine F.ok sc_all_unlike (fun vs H Q E h => ?_) (fun cdv A outer s H vs Q E hr h => ?_)
  · obtain ⟨v, rfl, _⟩ := h; rfl
  obtain ⟨v, rfl, h⟩ := h
  refine ⟨_, (pss_one (ps_ret (pe_cmpR op_eq (pe_callB call_len_set (by rfl) B.len bt_len (pa_cons (pe_callTy (CallR.or (call_set hr (by rfl)) (call_setS (by rfl))) (by rfl) B.set bt_set (pa_cons (pv 0) pa_nil)) pa_nil)) (pe_callB (CallR.or (kLen (K := K)) call_len_str) (by rfl) B.len bt_len (pa_cons (pv 0) pa_nil)) (nomark _)))), ?_⟩
  rcases h with ⟨p, ys, ks, rfl, hS, hP, hl, q⟩ | ⟨x, rfl, hl, q⟩
  · have hle := ndist_le ks.reverse
    rw [List.length_reverse] at hle
    refine ⟨_, rfl, .inl (.inl ⟨_, ys, ks, rfl, hS, hP, hl, fun d hd => ?_⟩)⟩
    refine ⟨_, _, rfl, upd_same, by omega, _, rfl, .inl ⟨p, ys, rfl, .inl ((same_new hd _).seq hS), rfl, ?_⟩⟩
    have e : decide (V.int ((ndist ks.reverse : Nat) : Int) = V.int (ys.length : Int)) = decide ks.Nodup := by rw [nd_int, ← hP.length, nodup_dec]
    show Q (.bl (decide (V.int ((ndist ks.reverse : Nat) : Int) = V.int (ys.length : Int)))) _
    rw [e]
    exact q _ (same_new hd _)
  · have hle := ndist_le (cl x).reverse
    rw [List.length_reverse, cl_length] at hle
    refine ⟨_, rfl, .inr ⟨x, rfl, hl, fun d hd => ?_⟩⟩
    refine ⟨_, _, rfl, upd_same, by omega, _, rfl, .inr ⟨x, rfl, szl (by omega), rfl, ?_⟩⟩
    have e : decide (V.int ((ndist (cl x).reverse : Nat) : Int) = V.int (x.length : Int)) = decide (cl x).Nodup := by rw [nd_int, ← cl_length, nodup_dec]
    show Q (.bl (decide (V.int ((ndist (cl x).reverse : Nat) : Int) = V.int (x.length : Int)))) _
    rw [e]
    exact q _ (same_new hd _)

theorem sc_are_signs : FnScope ["thing"] ["thing"] (defScope s_are_signs) := ⟨rfl, rfl, rfl, by decide +kernel, rfl, by decide +kernel, by decide +kernel⟩
theorem ok_are_signs (B : Bi mg) {c_ScribeError c_NoWay c_NoRoom c_NotPlain c_OtherSigns c_TooMany c_TwoWays c_NeverPlain c_NoText : Addr} (XB : Xb K mg c_ScribeError c_NoWay c_NoRoom c_NotPlain c_OtherSigns c_TooMany c_TwoWays c_NeverPlain c_NoText) (C_is_word : Cal P w K mg base "is_word" ["thing"] 1 (spIsWord K)) (C_all_unlike : Cal P w K mg base "all_unlike" ["parts"] 1 (spUnl K)) {f : Addr} {fd : FuncData} (F : Fun K "are_signs" "are_signs" s_are_signs f fd) : FnOk P w K mg base CX0 2 f fd ["thing"] (spSigns K) := by
  refine F.ok sc_are_signs (fun vs H Q E h => ?_) (fun cdv A outer s H vs Q E hr h => ?_)
  · obtain ⟨v, d, rfl, _⟩ := h; rfl
  obtain ⟨v, d, rfl, rep, sm, q⟩ := h
  refine ⟨_, (pss_one (ps_ret (pe_and (pe_fn C_is_word hr (by decide : 1 ≤ 1) (by rfl) (pa_cons (pv 0) pa_nil)) (pe_and (pe_cmpR (kOp (K := K) rNeD (op_neD hr.units)) (pv 0) pe_str (nomark _)) (pe_one (pe_fn C_all_unlike hr (by decide : 1 ≤ 1) (by rfl) (pa_cons (pv 0) pa_nil))))))), ?_⟩
  refine ⟨_, rfl, v, d, rfl, rep, _, rfl, ?_⟩
  cases d with
  | str x =>
    unfold Rep at rep
    subst rep
    have hx : x.length ≤ 4000 := by unfold small at sm; exact sm
    refine iteB (fun c1 => ?_) (fun c1 => ?_)
    · refine ⟨_, rfl, .str x, .str "", rep_str _, rep_str _, by simp [deep], _, rfl, ?_⟩
      rw [eqD_nil]
      refine iteNd (fun c2 => ?_) (fun c2 => ?_)
      · refine ⟨_, rfl, _, rfl, .inr ⟨x, rfl, hx, fun H' g => ?_⟩⟩
        have e : signsD (.str x) = decide (cl x).Nodup := by
          show (wordS x && (!decide (cl x = []) && decide (cl x).Nodup)) = _
          rw [show wordS x = true from c1, decide_eq_false c2]; rfl
        rw [← e]; exact q H' g
      · have e : signsD (.str x) = false := by
          show (wordS x && (!decide (cl x = []) && decide (cl x).Nodup)) = _
          rw [decide_eq_true c2]; simp
        rw [← e]; exact q H (Same.refl H)
    · have e : signsD (.str x) = false := by
        show (wordS x && (!decide (cl x = []) && decide (cl x).Nodup)) = _
        rw [show wordS x = false from c1]; rfl
      rw [← e]; exact q H (Same.refl H)
  | _ => exact iteF (q H (Same.refl H))

theorem sc_is_mark : FnScope ["thing", "rooms"] ["thing", "rooms"] (defScope s_is_mark) := ⟨rfl, rfl, rfl, by decide +kernel, rfl, by decide +kernel, by decide +kernel⟩
theorem ok_is_mark (B : Bi mg) {c_ScribeError c_NoWay c_NoRoom c_NotPlain c_OtherSigns c_TooMany c_TwoWays c_NeverPlain c_NoText : Addr} (XB : Xb K mg c_ScribeError c_NoWay c_NoRoom c_NotPlain c_OtherSigns c_TooMany c_TwoWays c_NeverPlain c_NoText) (C_is_tuple_of : Cal P w K mg base "is_tuple_of" ["thing", "count"] 1 (spTupOf K)) (C_is_number_below : Cal P w K mg base "is_number_below" ["thing", "bound"] 1 (spNumB K)) (C_is_word : Cal P w K mg base "is_word" ["thing"] 1 (spIsWord K)) {f : Addr} {fd : FuncData} (F : Fun K "is_mark" "is_mark" s_is_mark f fd) : FnOk P w K mg base CX0 2 f fd ["thing", "rooms"] (spMark K) := by
  refine F.ok sc_is_mark (fun vs H Q E h => ?_) (fun cdv A outer s H vs Q E hr h => ?_)
  · obtain ⟨v, d, r, rfl, _⟩ := h; rfl
  obtain ⟨v, d, r, rfl, rep, q⟩ := h
  refine ⟨_, (pss_one (ps_ret (pe_and (pe_fn C_is_tuple_of hr (by decide : 1 ≤ 1) (by rfl) (pa_cons (pv 0) (pa_cons pe_int pa_nil))) (pe_and (pe_fn C_is_number_below hr (by decide : 1 ≤ 1) (by rfl) (pa_cons (pe_ix (kIx (K := K) rIxT ix_tup) (pv 0) pe_int (by intro _ _; rfl)) (pa_cons (pv 1) pa_nil))) (pe_one (pe_fn C_is_word hr (by decide : 1 ≤ 1) (by rfl) (pa_cons (pe_ix (kIx (K := K) rIxT ix_tup) (pv 0) pe_int (by intro _ _; rfl)) pa_nil))))))), ?_⟩
  refine ⟨_, rfl, v, d, 2, rfl, rep, _, rfl, ?_⟩
  refine iteB (fun c1 => ?_) (fun c1 => ?_)
  rotate_left
  · rw [mark_not c1] at q; exact q
  obtain ⟨ds, rfl, hl⟩ := tup_len (n := 2) c1
  match ds, hl with
  | [d0, d1], _ =>
    obtain ⟨a, xs, rfl, hq, rs⟩ := Rep.tup2 rep
    obtain ⟨v0, r0, rfl, p0, rs⟩ := rs.inv
    obtain ⟨v1, r1, rfl, p1, rs⟩ := rs.inv
    cases rs.inv0
    refine ⟨_, rfl, _, _, _, _, rfl, rfl, hq, rfl, _, rfl, v0, d0, r, rfl, p0, _, rfl, ?_⟩
    have e : markD r (.tup [d0, d1]) = (numD d0 r && wordD d1) := rfl
    rw [e] at q
    refine iteB (fun c2 => ?_) (fun c2 => ?_)
    · rw [c2, Bool.true_and] at q
      exact ⟨_, rfl, _, _, _, _, rfl, rfl, hq, rfl, v1, d1, rfl, p1, q⟩
    · rw [c2] at q
      exact q

theorem sc_is_step : FnScope ["thing", "signs", "rooms"] ["thing", "signs", "rooms"] (defScope s_is_step) := ⟨rfl, rfl, rfl, by decide +kernel, rfl, by decide +kernel, by decide +kernel⟩
theorem ok_is_step (B : Bi mg) {c_ScribeError c_NoWay c_NoRoom c_NotPlain c_OtherSigns c_TooMany c_TwoWays c_NeverPlain c_NoText : Addr} (XB : Xb K mg c_ScribeError c_NoWay c_NoRoom c_NotPlain c_OtherSigns c_TooMany c_TwoWays c_NeverPlain c_NoText) (C_is_word : Cal P w K mg base "is_word" ["thing"] 1 (spIsWord K)) (C_is_tuple_of : Cal P w K mg base "is_tuple_of" ["thing", "count"] 1 (spTupOf K)) (C_is_number_below : Cal P w K mg base "is_number_below" ["thing", "bound"] 1 (spNumB K)) {f : Addr} {fd : FuncData} (F : Fun K "is_step" "is_step" s_is_step f fd) : FnOk P w K mg base CX0 2 f fd ["thing", "signs", "rooms"] (spStp K) := by
  refine F.ok sc_is_step (fun vs H Q E h => ?_) (fun cdv A outer s H vs Q E hr h => ?_)
  · obtain ⟨v, d, g, r, rfl, _⟩ := h; rfl
  obtain ⟨v, d, g, r, rfl, rep, sm, q⟩ := h
  refine ⟨_, (pss_cons (ps_if (pt_not (pt_val (pe_fn C_is_tuple_of hr (by decide : 1 ≤ 1) (by rfl) (pa_cons (pv 0) (pa_cons pe_int pa_nil))))) (pss_one (ps_ret pe_bl)) pss_nil)
      (pss_cons (ps_if (PW.pt (pw_or (pt_not (pt_val (pe_fn C_is_number_below hr (by decide : 1 ≤ 1) (by rfl) (pa_cons (pe_ix (kIx (K := K) rIxT ix_tup) (pv 0) pe_int (by intro _ _; rfl)) (pa_cons (pv 2) pa_nil))))) (pw_or1 (pt_not (pt_val (pe_fn C_is_number_below hr (by decide : 1 ≤ 1) (by rfl) (pa_cons (pe_ix (kIx (K := K) rIxT ix_tup) (pv 0) pe_int (by intro _ _; rfl)) (pa_cons (pv 2) pa_nil)))))))) (pss_one (ps_ret pe_bl)) pss_nil)
      (pss_cons (ps_if (PW.pt (pw_or (pt_not (pt_val (pe_callB (kCall (K := K) rIsD call_isinstD) (by rfl) B.isinstance bt_isinstance (pa_cons (pe_ix (kIx (K := K) rIxT ix_tup) (pv 0) pe_int (by intro _ _; rfl)) (pa_cons (pe_ty (by rfl) B.str bt_str) pa_nil))))) (pw_or (pt_cmpR op_ne (pe_callB (CallR.or (kLen (K := K)) call_len_str) (by rfl) B.len bt_len (pa_cons (pe_ix (kIx (K := K) rIxT ix_tup) (pv 0) pe_int (by intro _ _; rfl)) pa_nil)) pe_int (nomark _)) (pw_or1 (pt_cmpR op_notIn_str (pe_ix (kIx (K := K) rIxT ix_tup) (pv 0) pe_int (by intro _ _; rfl)) (pv 1) rfl))))) (pss_one (ps_ret pe_bl)) pss_nil)
      (pss_one (ps_ret (pe_fn C_is_word hr (by decide : 1 ≤ 1) (by rfl) (pa_cons (pe_ix (kIx (K := K) rIxT ix_tup) (pv 0) pe_int (by intro _ _; rfl)) pa_nil))))))), ?_⟩
  refine ⟨_, rfl, v, d, 4, rfl, rep, _, rfl, ?_⟩
  cases hc : tupD d 4 with
  | false => rw [step_not hc] at q; exact iteT q
  | true =>
  refine iteF ?_
  obtain ⟨ds, rfl, hl⟩ := tup_len (n := 4) hc
  match ds, hl with
  | [d0, d1, d2, d3], _ =>
    obtain ⟨a, xs, rfl, hq, rs⟩ := Rep.tup2 rep
    obtain ⟨v0, r0, rfl, p0, rs⟩ := rs.inv
    obtain ⟨v1, r1, rfl, p1, rs⟩ := rs.inv
    obtain ⟨v2, r2, rfl, p2, rs⟩ := rs.inv
    obtain ⟨v3, r3, rfl, p3, rs⟩ := rs.inv
    cases rs.inv0
    have no : (numD d0 r = false ∨ numD d3 r = false ∨ ∀ y, d1 = .str y → y.length = 1 → inS y g = true → wordD d2 = false) → stepD g r (.tup [d0, d1, d2, d3]) = false := fun z => by
      cases d1 with
      | str y =>
        show (numD d0 r && (numD d3 r && (decide (y.length = 1) && (inS y g && wordD d2)))) = false
        rcases z with z | z | z
        · rw [z]; rfl
        · rw [z, Bool.false_and, Bool.and_false]
        · by_cases c1 : y.length = 1
          · cases c2 : inS y g with
            | false => simp
            | true => rw [z y rfl c1 c2]; simp
          · simp [c1]
      | _ => rfl
    refine ⟨_, rfl, _, _, _, _, rfl, rfl, hq, rfl, _, rfl, v0, d0, r, rfl, p0, _, rfl, ?_⟩
    cases h0 : numD d0 r with
    | false => rw [no (.inl h0)] at q; exact iteT q
    | true =>
    refine iteF ?_
    refine ⟨_, rfl, _, _, _, _, rfl, rfl, hq, rfl, _, rfl, v3, d3, r, rfl, p3, _, rfl, ?_⟩
    cases h3 : numD d3 r with
    | false => rw [no (.inr (.inl h3))] at q; exact iteT q
    | true =>
    refine iteF ?_
    refine ⟨_, rfl, _, _, _, _, rfl, rfl, hq, rfl, v1, d1, "str", rfl, p1, .inr (.inr (.inr (.inl rfl))), _, rfl, ?_⟩
    cases d1 with
    | str y =>
      refine iteF ?_
      have hy : y.length ≤ 4000 := by
        unfold small at sm
        have := smalls_mem sm (show D.str y ∈ [d0, D.str y, d2, d3] by simp)
        unfold small at this; exact this
      unfold Rep at p1
      subst p1
      refine ⟨_, rfl, _, _, _, _, rfl, rfl, hq, rfl, .inr ⟨y, rfl, szl (by omega), rfl, _, rfl, iteNd (fun c => ?_) (fun c => ?_)⟩⟩
      · rw [no (.inr (.inr fun y' e c1 _ => by injection e with e; subst e; exact absurd (by rw [c1]; rfl) c))] at q
        exact q
      have hy1 : y.length = 1 := by injection c with c; omega
      refine ⟨_, rfl, _, _, _, _, rfl, rfl, hq, rfl, _, rfl, y, g, rfl, rfl, _, rfl, ?_⟩
      cases hi : inS y g with
      | false =>
        rw [no (.inr (.inr fun y' e _ c2 => by injection e with e; subst e; rw [hi] at c2; cases c2))] at q
        have hi' : (!(!(Builtin.Str.occurrences g y 0 g.length 1).isEmpty)) = true := by
          have : (!(Builtin.Str.occurrences g y 0 g.length 1).isEmpty) = false := hi
          rw [this]; rfl
        rw [hi']
        exact iteT q
      | true =>
        have hi' : (!(!(Builtin.Str.occurrences g y 0 g.length 1).isEmpty)) = false := by
          have : (!(Builtin.Str.occurrences g y 0 g.length 1).isEmpty) = true := hi
          rw [this]; rfl
        rw [hi']
        refine iteF ?_
        have e : stepD g r (.tup [d0, .str y, d2, d3]) = wordD d2 := by
          show (numD d0 r && (numD d3 r && (decide (y.length = 1) && (inS y g && wordD d2)))) = _
          rw [h0, h3, decide_eq_true hy1, hi]; rfl
        rw [e] at q
        exact ⟨_, rfl, _, _, _, _, rfl, rfl, hq, rfl, v2, d2, rfl, p2, q⟩
    | _ => exact iteT (by rw [no (.inr (.inr fun y' e => nomatch e))] at q; exact q)

theorem sc_are_marks : FnScope ["thing", "rooms"] ["thing", "rooms"] (defScope s_are_marks) := ⟨rfl, rfl, rfl, by decide +kernel, rfl, by decide +kernel, by decide +kernel⟩
theorem ok_are_marks (B : Bi mg) {c_ScribeError c_NoWay c_NoRoom c_NotPlain c_OtherSigns c_TooMany c_TwoWays c_NeverPlain c_NoText : Addr} (XB : Xb K mg c_ScribeError c_NoWay c_NoRoom c_NotPlain c_OtherSigns c_TooMany c_TwoWays c_NeverPlain c_NoText) (C_all_unlike : Cal P w K mg base "all_unlike" ["parts"] 1 (spUnl K)) (C_is_mark : Cal P w K mg base "is_mark" ["thing", "rooms"] 2 (spMark K)) {f : Addr} {fd : FuncData} (F : Fun K "are_marks" "are_marks" s_are_marks f fd) : FnOk P w K mg base CX0 3 f fd ["thing", "rooms"] (spMarks K) := by
  refine F.ok sc_are_marks (fun vs H Q E h => ?_) (fun cdv A outer s H vs Q E hr h => ?_)
  · obtain ⟨v, d, r, rfl, _⟩ := h; rfl
  obtain ⟨v, d, r, rfl, rep, sm, q⟩ := h
  refine ⟨_, (pss_cons (ps_if (pt_not (pt_val (pe_callB (kCall (K := K) rIsD call_isinstD) (by rfl) B.isinstance bt_isinstance (pa_cons (pv 0) (pa_cons (pe_ty (by rfl) B.list bt_list) pa_nil))))) (pss_one (ps_ret pe_bl)) pss_nil)
      (pss_one (ps_ret (pe_and (pe_callB (call_allB (by rfl)) (by rfl) B.all bt_all (pa_cons (pe_comp rfl (blk_mk (N' := ["part", "rooms"]) (js := [none, some 1]) rfl (by decide +kernel) rfl (by decide +kernel) rfl rfl) (kPI (K := K) (fun k => iList k _) (pi_list (pv 0))) (fun _ _ _ _ _ => (pg_name (i := 0) (show List.Nodup (["part", "rooms"] : List Str) by decide +kernel) rfl (Or.inl rfl))) (fun _ _ _ _ _ => pf_nil) (fun _ _ _ _ _ => (pe_fn C_is_mark hr (by decide : 2 ≤ 2) (by rfl) (pa_cons (pv 0) (pa_cons (pv 1) pa_nil))))) pa_nil)) (pe_one (pe_fn C_all_unlike hr (by decide : 1 ≤ 2) (by rfl) (pa_cons (pv 0) pa_nil))))))), ?_⟩
  refine ⟨_, rfl, v, d, "list", rfl, rep, .inr (.inr (.inr (.inr rfl))), _, rfl, ?_⟩
  cases d with
  | lst ds =>
    refine iteF ?_
    obtain ⟨a, xs, rfl, hq, rs⟩ := Rep.lst2 rep
    have hsm : ds.length ≤ 990 ∧ smalls ds := by unfold small at sm; exact sm
    have hlx : ds.length = xs.length := rs.length
    refine ⟨_, rfl, a, rfl, ⟨xs, hq⟩, ?_⟩
    refine comp_list (xs := xs) (fun i ys τ H' => H = H' ∧ (∃ x, τ = [x, some (.int r)]) ∧ i ≤ xs.length ∧ ys = ((ds.map (markD r)).take i).map V.bl) ⟨rfl, ⟨_, rfl⟩, Nat.zero_le _, rfl⟩ (fun i ys τ H' z => z.1 ▸ hq) ?_ ?_
    · rintro i x ys τ _ hx ⟨rfl, ⟨y, rfl⟩, hi, rfl⟩
      obtain ⟨d, hd, rd⟩ := Reps.at rs hx
      have hil : i < xs.length := (List.getElem?_eq_some_iff.mp hx).1
      have hdi : (ds.map (markD r))[i]? = some (markD r d) := by rw [List.getElem?_map, hd]; rfl
      refine ⟨_, rfl, _, rfl, x, d, r, rfl, rd, szl' (by rw [List.length_map, List.length_take]; omega), rfl, ⟨_, rfl⟩, hil, ?_⟩
      rw [take_get hdi, List.map_append]; rfl
    rintro ys τ _ ⟨rfl, _, _, rfl⟩ p hp
    have e0 : (ds.map (markD r)).take xs.length = ds.map (markD r) := by rw [← hlx, ← List.length_map (markD r), List.take_length]
    rw [e0]
    have gp := same_new hp (.lst ((ds.map (markD r)).map V.bl))
    refine ⟨p, ds.map (markD r), rfl, SqL.of upd_same, _, rfl, iteB (fun c => ?_) (fun c => ?_)⟩
    · refine ⟨_, rfl, _, rfl, .inl ⟨a, xs, ds.map keyD, rfl, gp.seq hq, keys_of (f := markD r) (fun _ _ => markKey) (Reps.mono gp _ _ rs) (all_id c), by rw [List.length_map]; omega, fun H' g7 => ?_⟩⟩
      have e : marksD r (.lst ds) = decide (ds.map keyD).Nodup := by
        show ((ds.map (markD r)).all id && decide (ds.map keyD).Nodup) = _
        rw [c, Bool.true_and]
      rw [← e]; exact q _ (gp.trans g7)
    · have e : marksD r (.lst ds) = false := by
        show ((ds.map (markD r)).all id && decide (ds.map keyD).Nodup) = _
        rw [c, Bool.false_and]
      rw [← e]; exact q _ gp
  | _ => exact iteT (q H (Same.refl H))

theorem sc_are_steps : FnScope ["thing", "signs", "rooms"] ["thing", "signs", "rooms"] (defScope s_are_steps) := ⟨rfl, rfl, rfl, by decide +kernel, rfl, by decide +kernel, by decide +kernel⟩
theorem ok_are_steps (B : Bi mg) {c_ScribeError c_NoWay c_NoRoom c_NotPlain c_OtherSigns c_TooMany c_TwoWays c_NeverPlain c_NoText : Addr} (XB : Xb K mg c_ScribeError c_NoWay c_NoRoom c_NotPlain c_OtherSigns c_TooMany c_TwoWays c_NeverPlain c_NoText) (C_all_unlike : Cal P w K mg base "all_unlike" ["parts"] 1 (spUnl K)) (C_is_step : Cal P w K mg base "is_step" ["thing", "signs", "rooms"] 2 (spStp K)) {f : Addr} {fd : FuncData} (F : Fun K "are_steps" "are_steps" s_are_steps f fd) : FnOk P w K mg base CX0 3 f fd ["thing", "signs", "rooms"] (spStps K) := by
  refine F.ok sc_are_steps (fun vs H Q E h => ?_) (fun cdv A outer s H vs Q E hr h => ?_)
  · obtain ⟨v, d, g, r, rfl, _⟩ := h; rfl
  obtain ⟨v, d, g, r, rfl, rep, sm, q⟩ := h
  refine ⟨_, (pss_cons (ps_if (pt_not (pt_val (pe_callB (kCall (K := K) rIsD call_isinstD) (by rfl) B.isinstance bt_isinstance (pa_cons (pv 0) (pa_cons (pe_ty (by rfl) B.list bt_list) pa_nil))))) (pss_one (ps_ret pe_bl)) pss_nil)
      (pss_one (ps_ret (pe_and (pe_callB (call_allB (by rfl)) (by rfl) B.all bt_all (pa_cons (pe_comp rfl (blk_mk (N' := ["part", "signs", "rooms"]) (js := [none, some 1, some 2]) rfl (by decide +kernel) rfl (by decide +kernel) rfl rfl) (kPI (K := K) (fun k => iList k _) (pi_list (pv 0))) (fun _ _ _ _ _ => (pg_name (i := 0) (show List.Nodup (["part", "signs", "rooms"] : List Str) by decide +kernel) rfl (Or.inl rfl))) (fun _ _ _ _ _ => pf_nil) (fun _ _ _ _ _ => (pe_fn C_is_step hr (by decide : 2 ≤ 2) (by rfl) (pa_cons (pv 0) (pa_cons (pv 1) (pa_cons (pv 2) pa_nil)))))) pa_nil)) (pe_one (pe_fn C_all_unlike hr (by decide : 1 ≤ 2) (by rfl) (pa_cons (pv 0) pa_nil))))))), ?_⟩
  refine ⟨_, rfl, v, d, "list", rfl, rep, .inr (.inr (.inr (.inr rfl))), _, rfl, ?_⟩
  cases d with
  | lst ds =>
    refine iteF ?_
    obtain ⟨a, xs, rfl, hq, rs⟩ := Rep.lst2 rep
    have hsm : ds.length ≤ 990 ∧ smalls ds := by unfold small at sm; exact sm
    have hlx : ds.length = xs.length := rs.length
    refine ⟨_, rfl, a, rfl, ⟨xs, hq⟩, ?_⟩
    refine comp_list (xs := xs) (fun i ys τ H' => H = H' ∧ (∃ x, τ = [x, some (.str g), some (.int r)]) ∧ i ≤ xs.length ∧ ys = ((ds.map (stepD g r)).take i).map V.bl) ⟨rfl, ⟨_, rfl⟩, Nat.zero_le _, rfl⟩ (fun i ys τ H' z => z.1 ▸ hq) ?_ ?_
    · rintro i x ys τ _ hx ⟨rfl, ⟨y, rfl⟩, hi, rfl⟩
      obtain ⟨d, hd, rd⟩ := Reps.at rs hx
      have hil : i < xs.length := (List.getElem?_eq_some_iff.mp hx).1
      have hdi : (ds.map (stepD g r))[i]? = some (stepD g r d) := by rw [List.getElem?_map, hd]; rfl
      refine ⟨_, rfl, _, rfl, _, rfl, x, d, g, r, rfl, rd, smalls_mem hsm.2 (List.mem_of_getElem? hd), szl' (by rw [List.length_map, List.length_take]; omega), rfl, ⟨_, rfl⟩, hil, ?_⟩
      rw [take_get hdi, List.map_append]; rfl
    rintro ys τ _ ⟨rfl, _, _, rfl⟩ p hp
    have e0 : (ds.map (stepD g r)).take xs.length = ds.map (stepD g r) := by rw [← hlx, ← List.length_map (stepD g r), List.take_length]
    rw [e0]
    have gp := same_new hp (.lst ((ds.map (stepD g r)).map V.bl))
    refine ⟨p, ds.map (stepD g r), rfl, SqL.of upd_same, _, rfl, iteB (fun c => ?_) (fun c => ?_)⟩
    · refine ⟨_, rfl, _, rfl, .inl ⟨a, xs, ds.map keyD, rfl, gp.seq hq, keys_of (f := stepD g r) (fun _ _ => stepKey) (Reps.mono gp _ _ rs) (all_id c), by rw [List.length_map]; omega, fun H' g7 => ?_⟩⟩
      have e : stepsD g r (.lst ds) = decide (ds.map keyD).Nodup := by
        show ((ds.map (stepD g r)).all id && decide (ds.map keyD).Nodup) = _
        rw [c, Bool.true_and]
      rw [← e]; exact q _ (gp.trans g7)
    · have e : stepsD g r (.lst ds) = false := by
        show ((ds.map (stepD g r)).all id && decide (ds.map keyD).Nodup) = _
        rw [c, Bool.false_and]
      rw [← e]; exact q _ gp
  | _ => exact iteT (q H (Same.refl H))

theorem sc_is_scribe : FnScope ["thing", "signs", "rooms"] ["thing"] (defScope s_is_scribe) := ⟨rfl, rfl, rfl, by decide +kernel, rfl, by decide +kernel, by decide +kernel⟩
theorem ok_is_scribe (B : Bi mg) {c_ScribeError c_NoWay c_NoRoom c_NotPlain c_OtherSigns c_TooMany c_TwoWays c_NeverPlain c_NoText : Addr} (XB : Xb K mg c_ScribeError c_NoWay c_NoRoom c_NotPlain c_OtherSigns c_TooMany c_TwoWays c_NeverPlain c_NoText) (C_are_steps : Cal P w K mg base "are_steps" ["thing", "signs", "rooms"] 3 (spStps K)) (C_is_tuple_of : Cal P w K mg base "is_tuple_of" ["thing", "count"] 1 (spTupOf K)) (C_are_signs : Cal P w K mg base "are_signs" ["thing"] 2 (spSigns K)) (C_is_number_below : Cal P w K mg base "is_number_below" ["thing", "bound"] 1 (spNumB K)) (C_are_marks : Cal P w K mg base "are_marks" ["thing", "rooms"] 3 (spMarks K)) {f : Addr} {fd : FuncData} (F : Fun K "is_scribe" "is_scribe" s_is_scribe f fd) : FnOk P w K mg base CX0 4 f fd ["thing"] (spScr K) := by
  refine F.ok sc_is_scribe (fun vs H Q E h => ?_) (fun cdv A outer s H vs Q E hr h => ?_)
  · obtain ⟨v, d, rfl, _⟩ := h; rfl
  obtain ⟨v, d, rfl, rep, sm, q⟩ := h
  refine ⟨_, (pss_cons (ps_if (pt_not (pt_val (pe_fn C_is_tuple_of hr (by decide : 1 ≤ 3) (by rfl) (pa_cons (pv 0) (pa_cons pe_int pa_nil))))) (pss_one (ps_ret pe_bl)) pss_nil)
      (pss_cons (ps_set (i := 1) sc_is_scribe.nd rfl (Or.inl rfl) (pe_ix (kIx (K := K) rIxT ix_tup) (pv 0) (pe_globI (by rfl) B.SIGNS) (by intro _ _; rfl)))
      (pss_cons (ps_set (i := 2) sc_is_scribe.nd rfl (Or.inl rfl) (pe_ix (kIx (K := K) rIxT ix_tup) (pv 0) (pe_globI (by rfl) B.ROOMS) (by intro _ _; rfl)))
      (pss_cons (ps_if (PW.pt (pw_or (pt_not (pt_val (pe_fn C_are_signs hr (by decide : 2 ≤ 3) (by rfl) (pa_cons (pv 1) pa_nil)))) (pw_or1 (pt_not (pt_val (pe_fn C_is_number_below hr (by decide : 1 ≤ 3) (by rfl) (pa_cons (pv 2) (pa_cons (pe_op op_add (pe_globI (by rfl) B.MOST_ROOMS) pe_int) pa_nil)))))))) (pss_one (ps_ret pe_bl)) pss_nil)
      (pss_cons (ps_if (PW.pt (pw_or (pt_not (pt_val (pe_fn C_are_marks hr (by decide : 3 ≤ 3) (by rfl) (pa_cons (pe_ix (kIx (K := K) rIxT ix_tup) (pv 0) (pe_globI (by rfl) B.BEGINS) (by intro _ _; rfl)) (pa_cons (pv 2) pa_nil))))) (pw_or1 (pt_not (pt_val (pe_fn C_are_marks hr (by decide : 3 ≤ 3) (by rfl) (pa_cons (pe_ix (kIx (K := K) rIxT ix_tup) (pv 0) (pe_globI (by rfl) B.ENDS) (by intro _ _; rfl)) (pa_cons (pv 2) pa_nil)))))))) (pss_one (ps_ret pe_bl)) pss_nil)
      (pss_one (ps_ret (pe_fn C_are_steps hr (by decide : 3 ≤ 3) (by rfl) (pa_cons (pe_ix (kIx (K := K) rIxT ix_tup) (pv 0) (pe_globI (by rfl) B.STEPS) (by intro _ _; rfl)) (pa_cons (pv 1) (pa_cons (pv 2) pa_nil))))))))))), ?_⟩
  refine ⟨_, rfl, v, d, 5, rfl, rep, _, rfl, ?_⟩
  cases hc : tupD d 5 with
  | false => rw [scr_not hc] at q; exact iteT (q H (Same.refl H))
  | true =>
  refine iteF ?_
  obtain ⟨ds, rfl, hl⟩ := tup_len (n := 5) hc
  match ds, hl with
  | [d0, d1, d2, d3, d4], _ =>
    obtain ⟨a, xs, rfl, hq, rs⟩ := Rep.tup2 rep
    obtain ⟨v0, r0, rfl, p0, rs⟩ := rs.inv
    obtain ⟨v1, r1, rfl, p1, rs⟩ := rs.inv
    obtain ⟨v2, r2, rfl, p2, rs⟩ := rs.inv
    obtain ⟨v3, r3, rfl, p3, rs⟩ := rs.inv
    obtain ⟨v4, r4, rfl, p4, rs⟩ := rs.inv
    cases rs.inv0
    have sm' : smalls [d0, d1, d2, d3, d4] := by unfold small at sm; exact sm
    have s0 := smalls_mem sm' (show d0 ∈ _ by simp)
    have s2 := smalls_mem sm' (show d2 ∈ [d0, d1, d2, d3, d4] by simp)
    have s3 := smalls_mem sm' (show d3 ∈ [d0, d1, d2, d3, d4] by simp)
    have s4 := smalls_mem sm' (show d4 ∈ [d0, d1, d2, d3, d4] by simp)
    refine ⟨_, rfl, _, _, _, _, rfl, rfl, hq, rfl, ?_⟩
    refine ⟨_, rfl, _, _, _, _, rfl, rfl, hq, rfl, ?_⟩
    refine ⟨_, rfl, v0, d0, rfl, p0, s0, fun H1 g1 => ⟨_, rfl, ?_⟩⟩
    cases h0 : signsD d0 with
    | false =>
      have e : scrD (.tup [d0, d1, d2, d3, d4]) = false := by
        cases d0 with
        | str y =>
          cases d1 with
          | int i =>
            show (signsD (.str y) && _) = false
            rw [h0]; rfl
          | _ => rfl
        | _ => rfl
      rw [e] at q; exact iteT (q H1 g1)
    | true =>
    refine iteF ?_
    refine ⟨_, rfl, _, _, rfl, rfl, v1, d1, _, rfl, Rep.mono g1 _ _ p1, _, rfl, ?_⟩
    obtain ⟨gs, rfl⟩ : ∃ y, d0 = .str y := by
      cases d0 with
      | str y => exact ⟨y, rfl⟩
      | _ => cases h0
    cases h1 : numD d1 (200 + 1) with
    | false =>
      have e : scrD (.tup [.str gs, d1, d2, d3, d4]) = false := by
        cases d1 with
        | int i =>
          show (signsD (.str gs) && (numD (.int i) 201 && _)) = false
          rw [show numD (.int i) 201 = false from h1, Bool.false_and, Bool.and_false]
        | _ => rfl
      rw [e] at q; exact iteT (q H1 g1)
    | true =>
    refine iteF ?_
    obtain ⟨ro, rfl⟩ : ∃ i, d1 = .int i := by
      cases d1 with
      | int i => exact ⟨i, rfl⟩
      | _ => cases h1
    have e : scrD (.tup [.str gs, .int ro, d2, d3, d4]) = (marksD ro d2 && (marksD ro d4 && stepsD gs ro d3)) := by
      show (signsD (.str gs) && (numD (.int ro) 201 && _)) = _
      rw [h0, show numD (.int ro) 201 = true from h1]; rfl
    rw [e] at q
    have e0 : v0 = .str gs := by unfold Rep at p0; exact p0
    have e1 : v1 = .int ro := by unfold Rep at p1; exact p1
    subst e0; subst e1
    refine ⟨_, rfl, _, _, _, _, rfl, rfl, Same.seqT g1 hq, rfl, _, rfl, v2, d2, ro, rfl, Rep.mono g1 _ _ p2, s2, fun H2 g2 => ⟨_, rfl, ?_⟩⟩
    have g12 := g1.trans g2
    cases h2 : marksD ro d2 with
    | false => rw [h2] at q; exact iteT (q H2 g12)
    | true =>
    refine iteF ?_
    refine ⟨_, rfl, _, _, _, _, rfl, rfl, Same.seqT g12 hq, rfl, _, rfl, v4, d4, ro, rfl, Rep.mono g12 _ _ p4, s4, fun H3 g3 => ⟨_, rfl, ?_⟩⟩
    have g13 := g12.trans g3
    cases h4 : marksD ro d4 with
    | false => rw [h2, h4] at q; exact iteT (q H3 g13)
    | true =>
    refine iteF ?_
    rw [h2, h4] at q
    exact ⟨_, rfl, _, _, _, _, rfl, rfl, Same.seqT g13 hq, rfl, _, rfl, _, rfl, v3, d3, gs, ro, rfl, Rep.mono g13 _ _ p3, s3, fun H4 g4 => q H4 (g13.trans g4)⟩

theorem sc_shown_word : FnScope ["word"] ["word"] (defScope s_shown_word) := ⟨rfl, rfl, rfl, by decide +kernel, rfl, by decide +kernel, by decide +kernel⟩
theorem ok_shown_word (B : Bi mg) {c_ScribeError c_NoWay c_NoRoom c_NotPlain c_OtherSigns c_TooMany c_TwoWays c_NeverPlain c_NoText : Addr} (XB : Xb K mg c_ScribeError c_NoWay c_NoRoom c_NotPlain c_OtherSigns c_TooMany c_TwoWays c_NeverPlain c_NoText)  {f : Addr} {fd : FuncData} (F : Fun K "shown_word" "shown_word" s_shown_word f fd) : FnOk P w K mg base CX0 1 f fd ["word"] (spShW) := by
  refine F.ok sc_shown_word (fun vs H Q E h => ?_) (fun cdv A outer s H vs Q E hr h => ?_)
  · obtain ⟨w, rfl, _⟩ := h; rfl
  obtain ⟨w, rfl, q⟩ := h
  refine ⟨_, (pss_one (ps_ret (pe_ifExp (pt_cmpR op_eq (pv 0) pe_str (nomark _)) (pe_globS (by rfl) B.EMPTY_WORD) (pv 0)))), ?_⟩
  refine ⟨_, rfl, rfl, _, rfl, iteDd (fun c => ?_) (fun c => ?_)⟩
  · have e : w = Str.ofString "" := by injection c
    rw [show shW w = Str.ofString "-" from if_pos e] at q
    exact q
  · rw [show shW w = w from if_neg (fun z => c (by rw [z]))] at q
    exact ⟨_, rfl, q⟩

theorem sc_shown_mark : FnScope ["kind", "mark"] ["kind", "mark"] (defScope s_shown_mark) := ⟨rfl, rfl, rfl, by decide +kernel, rfl, by decide +kernel, by decide +kernel⟩
theorem ok_shown_mark (B : Bi mg) {c_ScribeError c_NoWay c_NoRoom c_NotPlain c_OtherSigns c_TooMany c_TwoWays c_NeverPlain c_NoText : Addr} (XB : Xb K mg c_ScribeError c_NoWay c_NoRoom c_NotPlain c_OtherSigns c_TooMany c_TwoWays c_NeverPlain c_NoText) (C_shown_word : Cal P w K mg base "shown_word" ["word"] 1 (spShW)) {f : Addr} {fd : FuncData} (F : Fun K "shown_mark" "shown_mark" s_shown_mark f fd) : FnOk P w K mg base CX0 2 f fd ["kind", "mark"] (spShM K) := by
  refine F.ok sc_shown_mark (fun vs H Q E h => ?_) (fun cdv A outer s H vs Q E hr h => ?_)
  · obtain ⟨k, v, m, rfl, _⟩ := h; rfl
  obtain ⟨k, v, m, rfl, hv, hm, hk, q⟩ := h
  refine ⟨_, (pss_one (ps_ret (kPE (K := K) (fun k => tBM k _ _ _ _) (pe_bm PySem.F.plainAttrs_str PySem.F.slot_str_join PySem.F.type_str_join mt_join pe_str (pa_cons (pe_lst (pa_cons (pv 0) (pa_cons (pe_callTy call_strI (by rfl) B.str bt_str (pa_cons (pe_ix (kIx (K := K) rIxT ix_tup) (pv 1) pe_int (by intro _ _; rfl)) pa_nil)) (pa_cons (pe_fn C_shown_word hr (by decide : 1 ≤ 1) (by rfl) (pa_cons (pe_ix (kIx (K := K) rIxT ix_tup) (pv 1) pe_int (by intro _ _; rfl)) pa_nil)) pa_nil)))) pa_nil))))), ?_⟩
  obtain ⟨b, rfl, hb⟩ := hv
  have g1 := hm.1
  have g2 := hm.2.1
  have g3 := shW_len hm.2.2
  obtain ⟨n, hn⟩ := Int.eq_ofNat_of_zero_le g1
  have g4 := (num_len (n := n) (by omega)).2
  have e : m.1.toNat = n := by rw [hn]; rfl
  have q' : ∀ H', Same H H' → Q (.str (Txt.join (Str.ofString " ") [k, numS n, shW m.2])) H' := fun H' g => by have := q H' g; unfold rowM at this; rw [e] at this; exact this
  refine ⟨rfl, _, rfl, _, rfl, b, _, _, _, rfl, rfl, hb, rfl, n, by rw [hn], by omega, _, rfl, b, _, _, _, rfl, rfl, hb, rfl, m.2, rfl, szl (by simp), fun p hp => ⟨Str.ofString " ", p, [k, numS n, shW m.2], rfl, rfl, SqL.of upd_same, ?_, q' _ (same_new hp _)⟩⟩
  have e1 : (Str.ofString " ").length = 1 := by decide +kernel
  simp only [List.map_cons, List.map_nil, List.sum_cons, List.sum_nil, List.length_cons, List.length_nil, e1]
  omega

theorem sc_shown_step : FnScope ["step"] ["step"] (defScope s_shown_step) := ⟨rfl, rfl, rfl, by decide +kernel, rfl, by decide +kernel, by decide +kernel⟩
theorem ok_shown_step (B : Bi mg) {c_ScribeError c_NoWay c_NoRoom c_NotPlain c_OtherSigns c_TooMany c_TwoWays c_NeverPlain c_NoText : Addr} (XB : Xb K mg c_ScribeError c_NoWay c_NoRoom c_NotPlain c_OtherSigns c_TooMany c_TwoWays c_NeverPlain c_NoText) (C_shown_word : Cal P w K mg base "shown_word" ["word"] 1 (spShW)) {f : Addr} {fd : FuncData} (F : Fun K "shown_step" "shown_step" s_shown_step f fd) : FnOk P w K mg base CX0 2 f fd ["step"] (spShS K) := by
  refine F.ok sc_shown_step (fun vs H Q E h => ?_) (fun cdv A outer s H vs Q E hr h => ?_)
  · obtain ⟨v, t, rfl, _⟩ := h; rfl
  obtain ⟨v, t, rfl, hv, ht, q⟩ := h
  refine ⟨_, (pss_one (ps_ret (kPE (K := K) (fun k => tBM k _ _ _ _) (pe_bm PySem.F.plainAttrs_str PySem.F.slot_str_join PySem.F.type_str_join mt_join pe_str (pa_cons (pe_lst (pa_cons pe_str (pa_cons (pe_callTy call_strI (by rfl) B.str bt_str (pa_cons (pe_ix (kIx (K := K) rIxT ix_tup) (pv 0) pe_int (by intro _ _; rfl)) pa_nil)) (pa_cons (pe_ix (kIx (K := K) rIxT ix_tup) (pv 0) pe_int (by intro _ _; rfl)) (pa_cons (pe_fn C_shown_word hr (by decide : 1 ≤ 1) (by rfl) (pa_cons (pe_ix (kIx (K := K) rIxT ix_tup) (pv 0) pe_int (by intro _ _; rfl)) pa_nil)) (pa_cons (pe_callTy call_strI (by rfl) B.str bt_str (pa_cons (pe_ix (kIx (K := K) rIxT ix_tup) (pv 0) pe_int (by intro _ _; rfl)) pa_nil)) pa_nil)))))) pa_nil))))), ?_⟩
  obtain ⟨b, rfl, hb⟩ := hv
  obtain ⟨g1, g2, g3, g4, g5, c, c1, c2, ec⟩ := ht
  have g6 := shW_len g5
  obtain ⟨n1, hn1⟩ := Int.eq_ofNat_of_zero_le g1
  obtain ⟨n2, hn2⟩ := Int.eq_ofNat_of_zero_le g3
  have g7 := (num_len (n := n1) (by omega)).2
  have g8 := (num_len (n := n2) (by omega)).2
  have e1 : t.1.toNat = n1 := by rw [hn1]; rfl
  have e2 : t.2.2.2.toNat = n2 := by rw [hn2]; rfl
  have e3 : t.2.1.length = 1 := by rw [ec]; rfl
  have q' : ∀ H', Same H H' → Q (.str (Txt.join (Str.ofString " ") [Str.ofString "step", numS n1, t.2.1, shW t.2.2.1, numS n2])) H' := fun H' g => by have := q H' g; unfold rowS at this; rw [e1, e2] at this; exact this
  refine ⟨rfl, _, rfl, b, _, _, _, rfl, rfl, hb, rfl, n1, by rw [hn1], by omega, _, rfl, b, _, _, _, rfl, rfl, hb, rfl, _, rfl, b, _, _, _, rfl, rfl, hb, rfl, t.2.2.1, rfl, _, rfl, b, _, _, _, rfl, rfl, hb, rfl, n2, by rw [hn2], by omega, szl (by simp), fun p hp => ⟨Str.ofString " ", p, [Str.ofString "step", numS n1, t.2.1, shW t.2.2.1, numS n2], rfl, rfl, SqL.of upd_same, ?_, q' _ (same_new hp _)⟩⟩
  have e4 : (Str.ofString " ").length = 1 := by decide +kernel
  have e5 : (Str.ofString "step").length = 4 := by decide +kernel
  simp only [List.map_cons, List.map_nil, List.sum_cons, List.sum_nil, List.length_cons, List.length_nil, e3, e4, e5]
  omega

theorem sc_shown_scribe : FnScope ["scribe", "rows"] ["scribe"] (defScope s_shown_scribe) := ⟨rfl, rfl, rfl, by decide +kernel, rfl, by decide +kernel, by decide +kernel⟩
theorem ok_shown_scribe (B : Bi mg) {c_ScribeError c_NoWay c_NoRoom c_NotPlain c_OtherSigns c_TooMany c_TwoWays c_NeverPlain c_NoText : Addr} (XB : Xb K mg c_ScribeError c_NoWay c_NoRoom c_NotPlain c_OtherSigns c_TooMany c_TwoWays c_NeverPlain c_NoText) (C_shown_mark : Cal P w K mg base "shown_mark" ["kind", "mark"] 2 (spShM K)) (C_shown_step : Cal P w K mg base "shown_step" ["step"] 2 (spShS K)) {f : Addr} {fd : FuncData} (F : Fun K "shown_scribe" "shown_scribe" s_shown_scribe f fd) : FnOk P w K mg base CX0 3 f fd ["scribe"] (spShown K) := by
  refine F.ok sc_shown_scribe (fun vs H Q E h => ?_) (fun cdv A outer s H vs Q E hr h => ?_)
  · obtain ⟨v, s, pb, ps, pe, rfl, _⟩ := h; rfl
  obtain ⟨v, s, pb, ps, pe, rfl, hV, ok, q⟩ := h
  refine ⟨_, (pss_cons (ps_set (i := 1) sc_shown_scribe.nd rfl (Or.inl rfl) (pe_lst (pa_cons (kPE (K := K) (fun k => tBM k _ _ _ _) (pe_bm PySem.F.plainAttrs_str PySem.F.slot_str_join PySem.F.type_str_join mt_join pe_str (pa_cons (pe_lst (pa_cons (pe_ix (kIx (K := K) rIxT ix_tup) (pv 0) (pe_globI (by rfl) B.SIGNS) (by intro _ _; rfl)) (pa_cons (pe_callTy call_strI (by rfl) B.str bt_str (pa_cons (pe_ix (kIx (K := K) rIxT ix_tup) (pv 0) (pe_globI (by rfl) B.ROOMS) (by intro _ _; rfl)) pa_nil)) pa_nil))) pa_nil))) pa_nil)))
      (pss_cons (ps_expr (kPE (K := K) (fun k => tBM k _ _ _ _) (pe_bm PySem.F.plainAttrs_list PySem.F.slot_list_extend PySem.F.type_list_extend mt_extend (pv 1) (pa_cons (pe_comp rfl (blk_mk (N' := ["mark"]) (js := [none]) rfl (by decide +kernel) rfl (by decide +kernel) rfl rfl) (kPI (K := K) (fun k => iList k _) (pi_list (pe_ix (kIx (K := K) rIxT ix_tup) (pv 0) (pe_globI (by rfl) B.BEGINS) (by intro _ _; rfl)))) (fun _ _ _ _ _ => (pg_name (i := 0) (show List.Nodup (["mark"] : List Str) by decide +kernel) rfl (Or.inl rfl))) (fun _ _ _ _ _ => pf_nil) (fun _ _ _ _ _ => (pe_fn C_shown_mark hr (by decide : 2 ≤ 2) (by rfl) (pa_cons pe_str (pa_cons (pv 0) pa_nil))))) pa_nil))))
      (pss_cons (ps_expr (kPE (K := K) (fun k => tBM k _ _ _ _) (pe_bm PySem.F.plainAttrs_list PySem.F.slot_list_extend PySem.F.type_list_extend mt_extend (pv 1) (pa_cons (pe_comp rfl (blk_mk (N' := ["step"]) (js := [none]) rfl (by decide +kernel) rfl (by decide +kernel) rfl rfl) (kPI (K := K) (fun k => iList k _) (pi_list (pe_ix (kIx (K := K) rIxT ix_tup) (pv 0) (pe_globI (by rfl) B.STEPS) (by intro _ _; rfl)))) (fun _ _ _ _ _ => (pg_name (i := 0) (show List.Nodup (["step"] : List Str) by decide +kernel) rfl (Or.inl rfl))) (fun _ _ _ _ _ => pf_nil) (fun _ _ _ _ _ => (pe_fn C_shown_step hr (by decide : 2 ≤ 2) (by rfl) (pa_cons (pv 0) pa_nil)))) pa_nil))))
      (pss_cons (ps_expr (kPE (K := K) (fun k => tBM k _ _ _ _) (pe_bm PySem.F.plainAttrs_list PySem.F.slot_list_extend PySem.F.type_list_extend mt_extend (pv 1) (pa_cons (pe_comp rfl (blk_mk (N' := ["mark"]) (js := [none]) rfl (by decide +kernel) rfl (by decide +kernel) rfl rfl) (kPI (K := K) (fun k => iList k _) (pi_list (pe_ix (kIx (K := K) rIxT ix_tup) (pv 0) (pe_globI (by rfl) B.ENDS) (by intro _ _; rfl)))) (fun _ _ _ _ _ => (pg_name (i := 0) (show List.Nodup (["mark"] : List Str) by decide +kernel) rfl (Or.inl rfl))) (fun _ _ _ _ _ => pf_nil) (fun _ _ _ _ _ => (pe_fn C_shown_mark hr (by decide : 2 ≤ 2) (by rfl) (pa_cons pe_str (pa_cons (pv 0) pa_nil))))) pa_nil))))
      (pss_one (ps_ret (kPE (K := K) (fun k => tBM k _ _ _ _) (pe_bm PySem.F.plainAttrs_str PySem.F.slot_str_join PySem.F.type_str_join mt_join pe_str (pa_cons (pv 1) pa_nil))))))))), ?_⟩
  obtain ⟨a, xb, xs, xe, rfl, h1, h2, h3, h4, h5, h6, h7⟩ := hV
  obtain ⟨n, hn⟩ := Int.eq_ofNat_of_zero_le ok.r0
  have hr1 := ok.r1
  have hs2 := ok.s2
  have e : s.rooms.toNat = n := by rw [hn]; rfl
  have g4 := (num_len (n := n) (by omega)).2
  have er : row0 s = Txt.join (Str.ofString " ") [s.signs, numS n] := by unfold row0; rw [e]
  refine ⟨rfl, _, rfl, a, _, _, _, rfl, rfl, h1, rfl, _, rfl, a, _, _, _, rfl, rfl, h1, rfl, n, by rw [hn], by omega, szl (by simp), fun p hp => ⟨Str.ofString " ", p, [s.signs, numS n], rfl, rfl, SqL.of upd_same, ?_, szl (by simp), fun pr hpr => ?_⟩⟩
  · have e1 : (Str.ofString " ").length = 1 := by decide +kernel
    simp only [List.map_cons, List.map_nil, List.sum_cons, List.sum_nil, List.length_cons, List.length_nil, e1]
    omega
  have gp := same_new hp (.lst [V.str s.signs, V.str (numS n)])
  have hpr0 : H pr = none := gp.free hpr
  have g0 := gp.trans (same_new hpr (.lst [V.str (row0 s)]))
  have E0 := upd_same (H := upd H p (.lst [V.str s.signs, V.str (numS n)])) (a := pr) (o := .lst [V.str (row0 s)])
  rw [← er]
  generalize upd (upd H p (.lst [V.str s.signs, V.str (numS n)])) pr (.lst [V.str (row0 s)]) = H0 at g0 E0 ⊢
  
  refine ⟨_, rfl, .inl ⟨rfl, _, SqL.of E0⟩, ?_⟩
  refine ⟨_, rfl, a, _, _, _, rfl, rfl, Same.seqT g0 h1, rfl, pb, rfl, ⟨xb, g0.seq h2⟩, ?_⟩
  refine comp_list (xs := xb) (fun i ys τ H' => Same H0 H' ∧ (∃ x, τ = [x]) ∧ i ≤ xb.length ∧ ys = ((s.begins.take i).map (rowM "begin")).map V.str) ⟨Same.refl _, ⟨_, rfl⟩, Nat.zero_le _, rfl⟩ (fun i ys τ H' z => (g0.trans z.1).seq h2) ?_ ?_
  · rintro i y ys τ H' hy ⟨g', ⟨x0, rfl⟩, hi, rfl⟩
    obtain ⟨m, hm, b, rfl, hb⟩ := paired_get h5 hy
    have hil : i < xb.length := (List.getElem?_eq_some_iff.mp hy).1
    have hll := h5.length
    have hb1 := Same.seqT (g0.trans g') hb
    refine ⟨_, rfl, Str.ofString "begin", .ref b, m, rfl, ⟨b, rfl, hb1⟩, ok.mb m (List.mem_of_getElem? hm), (by decide +kernel), fun H2 g2 => ⟨szl' (by rw [List.length_map, List.length_map, List.length_take]; have := ok.ok.lb; omega), g'.trans g2, ⟨_, rfl⟩, hil, ?_⟩⟩
    rw [take_get hm, List.map_append, List.map_append]; rfl
  rintro ys τ faH ⟨gfa, _, _, rfl⟩ fap hfap
  rw [← h5.length, List.take_length]
  have kfa := same_new hfap (.lst ((s.begins.map (rowM "begin")).map V.str))
  have efa := upd_same (H := faH) (a := fap) (o := .lst ((s.begins.map (rowM "begin")).map V.str))
  have gfa := gfa.trans kfa
  generalize upd faH fap (.lst ((s.begins.map (rowM "begin")).map V.str)) = faJ at efa gfa ⊢
  have zfa := gfa _ _ E0
  have Gfa : Same H (upd faJ pr (.lst (([V.str (row0 s)]) ++ (s.begins.map (rowM "begin")).map V.str))) := same_updN (g0.trans gfa) hpr0
  have Efa := upd_same (H := faJ) (a := pr) (o := .lst (([V.str (row0 s)]) ++ (s.begins.map (rowM "begin")).map V.str))
  refine ⟨pr, fap, _, _, rfl, rfl, zfa, efa, ?_, ?_⟩
  · simp only [List.length_append, List.length_map, List.length_singleton, sizeLine_eq]; have := ok.ok.lb; have := ok.ok.ls; have := ok.ok.le; omega
  generalize upd faJ pr (.lst (([V.str (row0 s)]) ++ (s.begins.map (rowM "begin")).map V.str)) = faK at Gfa Efa ⊢
  
  refine ⟨_, rfl, .inl ⟨rfl, _, SqL.of Efa⟩, ?_⟩
  refine ⟨_, rfl, a, _, _, _, rfl, rfl, Same.seqT Gfa h1, rfl, ps, rfl, ⟨xs, Gfa.seq h3⟩, ?_⟩
  refine comp_list (xs := xs) (fun i ys τ H' => Same faK H' ∧ (∃ x, τ = [x]) ∧ i ≤ xs.length ∧ ys = ((s.steps.take i).map rowS).map V.str) ⟨Same.refl _, ⟨_, rfl⟩, Nat.zero_le _, rfl⟩ (fun i ys τ H' z => (Gfa.trans z.1).seq h3) ?_ ?_
  · rintro i y ys τ H' hy ⟨g', ⟨x0, rfl⟩, hi, rfl⟩
    obtain ⟨m, hm, b, rfl, hb⟩ := paired_get h6 hy
    have hil : i < xs.length := (List.getElem?_eq_some_iff.mp hy).1
    have hll := h6.length
    have hb1 := Same.seqT (Gfa.trans g') hb
    refine ⟨_, rfl, .ref b, m, rfl, ⟨b, rfl, hb1⟩, ok.ms m (List.mem_of_getElem? hm), fun H2 g2 => ⟨szl' (by rw [List.length_map, List.length_map, List.length_take]; have := ok.ok.ls; omega), g'.trans g2, ⟨_, rfl⟩, hil, ?_⟩⟩
    rw [take_get hm, List.map_append, List.map_append]; rfl
  rintro ys τ fbH ⟨gfb, _, _, rfl⟩ fbp hfbp
  rw [← h6.length, List.take_length]
  have kfb := same_new hfbp (.lst ((s.steps.map rowS).map V.str))
  have efb := upd_same (H := fbH) (a := fbp) (o := .lst ((s.steps.map rowS).map V.str))
  have gfb := gfb.trans kfb
  generalize upd fbH fbp (.lst ((s.steps.map rowS).map V.str)) = fbJ at efb gfb ⊢
  have zfb := gfb _ _ Efa
  have Gfb : Same H (upd fbJ pr (.lst (([V.str (row0 s)] ++ (s.begins.map (rowM "begin")).map V.str) ++ (s.steps.map rowS).map V.str))) := same_updN (Gfa.trans gfb) hpr0
  have Efb := upd_same (H := fbJ) (a := pr) (o := .lst (([V.str (row0 s)] ++ (s.begins.map (rowM "begin")).map V.str) ++ (s.steps.map rowS).map V.str))
  refine ⟨pr, fbp, _, _, rfl, rfl, zfb, efb, ?_, ?_⟩
  · simp only [List.length_append, List.length_map, List.length_singleton, sizeLine_eq]; have := ok.ok.lb; have := ok.ok.ls; have := ok.ok.le; omega
  generalize upd fbJ pr (.lst (([V.str (row0 s)] ++ (s.begins.map (rowM "begin")).map V.str) ++ (s.steps.map rowS).map V.str)) = fbK at Gfb Efb ⊢
  
  refine ⟨_, rfl, .inl ⟨rfl, _, SqL.of Efb⟩, ?_⟩
  refine ⟨_, rfl, a, _, _, _, rfl, rfl, Same.seqT Gfb h1, rfl, pe, rfl, ⟨xe, Gfb.seq h4⟩, ?_⟩
  refine comp_list (xs := xe) (fun i ys τ H' => Same fbK H' ∧ (∃ x, τ = [x]) ∧ i ≤ xe.length ∧ ys = ((s.ends.take i).map (rowM "end")).map V.str) ⟨Same.refl _, ⟨_, rfl⟩, Nat.zero_le _, rfl⟩ (fun i ys τ H' z => (Gfb.trans z.1).seq h4) ?_ ?_
  · rintro i y ys τ H' hy ⟨g', ⟨x0, rfl⟩, hi, rfl⟩
    obtain ⟨m, hm, b, rfl, hb⟩ := paired_get h7 hy
    have hil : i < xe.length := (List.getElem?_eq_some_iff.mp hy).1
    have hll := h7.length
    have hb1 := Same.seqT (Gfb.trans g') hb
    refine ⟨_, rfl, Str.ofString "end", .ref b, m, rfl, ⟨b, rfl, hb1⟩, ok.me m (List.mem_of_getElem? hm), (by decide +kernel), fun H2 g2 => ⟨szl' (by rw [List.length_map, List.length_map, List.length_take]; have := ok.ok.le; omega), g'.trans g2, ⟨_, rfl⟩, hil, ?_⟩⟩
    rw [take_get hm, List.map_append, List.map_append]; rfl
  rintro ys τ fcH ⟨gfc, _, _, rfl⟩ fcp hfcp
  rw [← h7.length, List.take_length]
  have kfc := same_new hfcp (.lst ((s.ends.map (rowM "end")).map V.str))
  have efc := upd_same (H := fcH) (a := fcp) (o := .lst ((s.ends.map (rowM "end")).map V.str))
  have gfc := gfc.trans kfc
  generalize upd fcH fcp (.lst ((s.ends.map (rowM "end")).map V.str)) = fcJ at efc gfc ⊢
  have zfc := gfc _ _ Efb
  have Gfc : Same H (upd fcJ pr (.lst (([V.str (row0 s)] ++ (s.begins.map (rowM "begin")).map V.str ++ (s.steps.map rowS).map V.str) ++ (s.ends.map (rowM "end")).map V.str))) := same_updN (Gfb.trans gfc) hpr0
  have Efc := upd_same (H := fcJ) (a := pr) (o := .lst (([V.str (row0 s)] ++ (s.begins.map (rowM "begin")).map V.str ++ (s.steps.map rowS).map V.str) ++ (s.ends.map (rowM "end")).map V.str))
  refine ⟨pr, fcp, _, _, rfl, rfl, zfc, efc, ?_, ?_⟩
  · simp only [List.length_append, List.length_map, List.length_singleton, sizeLine_eq]; have := ok.ok.lb; have := ok.ok.ls; have := ok.ok.le; omega
  generalize upd fcJ pr (.lst (([V.str (row0 s)] ++ (s.begins.map (rowM "begin")).map V.str ++ (s.steps.map rowS).map V.str) ++ (s.ends.map (rowM "end")).map V.str)) = fcK at Gfc Efc ⊢
  
  have ez : fcK pr = some (.lst ((rowsOf s).map V.str)) := by rw [Efc]; unfold rowsOf; rw [List.map_append, List.map_append, List.map_append]; rfl
  refine ⟨rfl, _, rfl, Str.ofString "\n", pr, rowsOf s, rfl, rfl, SqL.of ez, ?_, q _ Gfc⟩
  have e1 : (Str.ofString "\n").length = 1 := by decide +kernel
  have z1 := sum_le (rows_len ok)
  have z2 := rows_many ok
  rw [e1]
  omega

theorem sc_read_parts : FnScope ["row", "count", "parts"] ["row", "count"] (defScope s_read_parts) := ⟨rfl, rfl, rfl, by decide +kernel, rfl, by decide +kernel, by decide +kernel⟩
theorem ok_read_parts (B : Bi mg) {c_ScribeError c_NoWay c_NoRoom c_NotPlain c_OtherSigns c_TooMany c_TwoWays c_NeverPlain c_NoText : Addr} (XB : Xb K mg c_ScribeError c_NoWay c_NoRoom c_NotPlain c_OtherSigns c_TooMany c_TwoWays c_NeverPlain c_NoText)  {f : Addr} {fd : FuncData} (F : Fun K "read_parts" "read_parts" s_read_parts f fd) : FnOk P w K mg base (CX1 P w) 1 f fd ["row", "count"] (spParts c_NoText) := by
  refine Fun.ok1 F sc_read_parts (fun vs H Q E h => ?_) (fun cdv A outer s H vs Q E hr h => ?_)
  · obtain ⟨x, n, rfl, _⟩ := h; rfl
  obtain ⟨x, n, rfl, hx, q, hE⟩ := h
  refine ⟨_, (pss_cons (ps_set (i := 2) sc_read_parts.nd rfl (Or.inl rfl) (kPE (K := K) (fun k => tBM k _ _ _ _) (pe_bm PySem.F.plainAttrs_str PySem.F.slot_str_split PySem.F.type_str_split mt_split (pv 0) (pa_cons pe_str pa_nil))))
      (pss_cons (ps_if (pt_cmpR op_ne (pe_callB (kLen (K := K)) (by rfl) B.len bt_len (pa_cons (pv 2) pa_nil)) (pv 1) (nomark _)) (pss_one (ps_raise XB.own_NoText (by rfl) (by rfl) raise_on pe_str)) pss_nil)
      (pss_one (ps_ret (pv 2))))), ?_⟩
  have e1 : Txt.split x ⟨#[32]⟩ = spl x := rfl
  have hm := spl_many x
  refine ⟨_, rfl, rfl, _, 32, rfl, by rw [sp_eq], by omega, by rw [e1]; omega, fun l hl => ?_⟩
  rw [e1]
  have g1 := same_new hl (.lst ((spl x).map V.str))
  have el := upd_same (H := H) (a := l) (o := .lst ((spl x).map V.str))
  generalize upd H l (.lst ((spl x).map V.str)) = H1 at g1 el ⊢
  refine ⟨_, rfl, l, _, rfl, .inl (SqL.of el), _, rfl, rfl, _, rfl, iteNd (fun c => ?_) (fun c => ?_)⟩
  · rw [List.length_map] at c
    exact ⟨rfl, hE (fun z => c (by rw [z])) _ g1⟩
  · rw [List.length_map] at c
    have c : (((spl x).length : Nat) : Int) = (n : Int) := by injection c
    exact ⟨_, rfl, q (by omega) l _ g1 hl el⟩

theorem sc_read_number : FnScope ["figures"] ["figures"] (defScope s_read_number) := ⟨rfl, rfl, rfl, by decide +kernel, rfl, by decide +kernel, by decide +kernel⟩
theorem ok_read_number (B : Bi mg) {c_ScribeError c_NoWay c_NoRoom c_NotPlain c_OtherSigns c_TooMany c_TwoWays c_NeverPlain c_NoText : Addr} (XB : Xb K mg c_ScribeError c_NoWay c_NoRoom c_NotPlain c_OtherSigns c_TooMany c_TwoWays c_NeverPlain c_NoText)  {f : Addr} {fd : FuncData} (F : Fun K "read_number" "read_number" s_read_number f fd) : FnOk P w K mg base (CX1 P w) 1 f fd ["figures"] (spNum c_NoText) := by
  refine Fun.ok1 F sc_read_number (fun vs H Q E h => ?_) (fun cdv A outer s H vs Q E hr h => ?_)
  · obtain ⟨x, rfl, _⟩ := h; rfl
  obtain ⟨x, rfl, hx, q, hE⟩ := h
  refine ⟨_, (pss_cons (ps_if (pt_not (pt_chain op_le op_le pe_int (pe_callB call_len_str (by rfl) B.len bt_len (pa_cons (pv 0) pa_nil)) (pe_callB call_len_str (by rfl) B.len bt_len (pa_cons (pe_callTy call_strI (by rfl) B.str bt_str (pa_cons (pe_globI (by rfl) B.MOST_ROOMS) pa_nil)) pa_nil)))) (pss_one (ps_raise XB.own_NoText (by rfl) (by rfl) raise_on pe_str)) pss_nil)
      (pss_cons (ps_if (pt_not (pt_val (pe_callB (call_allB (by rfl)) (by rfl) B.all bt_all (pa_cons (pe_comp rfl (blk_mk (N' := ["figure"]) (js := [none]) rfl (by decide +kernel) rfl (by decide +kernel) rfl rfl) (pi_str (pv 0)) (fun _ _ _ _ _ => (pg_name (i := 0) (show List.Nodup (["figure"] : List Str) by decide +kernel) rfl (Or.inl rfl))) (fun _ _ _ _ _ => pf_nil) (fun _ _ _ _ _ => (pe_cmpR op_in_str (pv 0) pe_str rfl))) pa_nil)))) (pss_one (ps_raise XB.own_NoText (by rfl) (by rfl) raise_on pe_str)) pss_nil)
      (pss_one (ps_ret (pe_callTy call_intT (by rfl) B.int bt_int (pa_cons (pv 0) pa_nil)))))), ?_⟩
  have e200 : (numS 200).length = 3 := by decide +kernel
  refine ⟨_, rfl, x, rfl, szl (by omega), _, _, rfl, rfl, _, rfl, ?_⟩
  by_cases c1 : 1 ≤ x.length
  rotate_left
  · rw [decide_eq_false (show ¬ (1 : Int) ≤ (x.length : Int) by omega)]
    refine iteF ⟨_, rfl, iteT ⟨rfl, hE ?_ _ (Same.refl _)⟩⟩
    unfold numP
    rw [if_neg (fun z => c1 z.1.1)]
  rw [decide_eq_true (show (1 : Int) ≤ (x.length : Int) by omega)]
  refine iteT ⟨200, rfl, by decide, numS 200, rfl, szl (by omega), _, _, rfl, rfl, _, rfl, ?_⟩
  rw [e200]
  by_cases c2 : x.length ≤ 3
  rotate_left
  · rw [decide_eq_false (show ¬ (x.length : Int) ≤ ((3 : Nat) : Int) by omega)]
    refine iteT ⟨rfl, hE ?_ _ (Same.refl _)⟩
    unfold numP
    rw [if_neg (fun z => c2 z.1.2)]
  rw [decide_eq_true (show (x.length : Int) ≤ ((3 : Nat) : Int) by omega)]
  refine iteF ?_
  refine ⟨_, rfl, _, rfl, ?_⟩
  refine comp_str (x := x) (fun i ys τ H' => H = H' ∧ (∃ x, τ = [x]) ∧ i ≤ 3 ∧ ys = (((cl x).take i).map (fun c => decide (48 ≤ c) && decide (c ≤ 57))).map V.bl) ⟨rfl, ⟨_, rfl⟩, Nat.zero_le _, rfl⟩ ?_ ?_
  · rintro i c ys τ _ hc ⟨rfl, ⟨x0, rfl⟩, hi, rfl⟩
    have hil : i < (cl x).length := (List.getElem?_eq_some_iff.mp hc).1
    rw [cl_length] at hil
    refine ⟨_, rfl, _, _, rfl, rfl, szl' (by rw [List.length_map, List.length_map, List.length_take]; omega), rfl, ⟨_, rfl⟩, by omega, ?_⟩
    rw [StrLaws.found_one, fig_dec, take_get hc, List.map_append, List.map_append]; rfl
  rintro ys τ _ ⟨rfl, _, hi, rfl⟩ l hl
  rw [List.take_length]
  refine ⟨l, _, rfl, SqL.of upd_same, _, rfl, ?_⟩
  rw [show (((cl x).map (fun c => decide (48 ≤ c) && decide (c ≤ 57)))).all id = digB x from by unfold digB; rw [List.all_map]; rfl]
  cases ed : digB x with
  | false =>
    refine iteT ⟨rfl, hE ?_ _ (same_new hl _)⟩
    unfold numP
    rw [if_neg (fun z => by rw [ed] at z; exact Bool.false_ne_true z.2)]
  | true =>
    refine iteF ?_
    refine ⟨_, rfl, x, rfl, c1, by omega, digB_iff.mp ed, q _ ?_ _ (same_new hl _)⟩
    unfold numP
    rw [if_pos ⟨⟨c1, c2⟩, ed⟩]; rfl

theorem sc_read_word : FnScope ["shown"] ["shown"] (defScope s_read_word) := ⟨rfl, rfl, rfl, by decide +kernel, rfl, by decide +kernel, by decide +kernel⟩
theorem ok_read_word (B : Bi mg) {c_ScribeError c_NoWay c_NoRoom c_NotPlain c_OtherSigns c_TooMany c_TwoWays c_NeverPlain c_NoText : Addr} (XB : Xb K mg c_ScribeError c_NoWay c_NoRoom c_NotPlain c_OtherSigns c_TooMany c_TwoWays c_NeverPlain c_NoText)  {f : Addr} {fd : FuncData} (F : Fun K "read_word" "read_word" s_read_word f fd) : FnOk P w K mg base CX0 1 f fd ["shown"] (spRdW) := by
  refine F.ok sc_read_word (fun vs H Q E h => ?_) (fun cdv A outer s H vs Q E hr h => ?_)
  · obtain ⟨w, rfl, _⟩ := h; rfl
  obtain ⟨w, rfl, q⟩ := h
  refine ⟨_, (pss_one (ps_ret (pe_ifExp (pt_cmpR op_eq (pv 0) (pe_globS (by rfl) B.EMPTY_WORD) (nomark _)) pe_str (pv 0)))), ?_⟩
  refine ⟨_, rfl, rfl, _, rfl, iteDd (fun c => ?_) (fun c => ?_)⟩
  · have e : w = Str.ofString "-" := by injection c
    rw [show rdW w = Str.ofString "" from if_pos e] at q
    exact q
  · rw [show rdW w = w from if_neg (fun z => c (by rw [z]))] at q
    exact ⟨_, rfl, q⟩

theorem sc_read_mark : FnScope ["row", "parts"] ["row"] (defScope s_read_mark) := ⟨rfl, rfl, rfl, by decide +kernel, rfl, by decide +kernel, by decide +kernel⟩
theorem ok_read_mark (B : Bi mg) {c_ScribeError c_NoWay c_NoRoom c_NotPlain c_OtherSigns c_TooMany c_TwoWays c_NeverPlain c_NoText : Addr} (XB : Xb K mg c_ScribeError c_NoWay c_NoRoom c_NotPlain c_OtherSigns c_TooMany c_TwoWays c_NeverPlain c_NoText) (C_read_parts : Cal1 P w K mg base "read_parts" ["row", "count"] 1 (spParts c_NoText)) (C_read_number : Cal1 P w K mg base "read_number" ["figures"] 1 (spNum c_NoText)) (C_read_word : Cal P w K mg base "read_word" ["shown"] 1 (spRdW)) {f : Addr} {fd : FuncData} (F : Fun K "read_mark" "read_mark" s_read_mark f fd) : FnOk P w K mg base (CX1 P w) 2 f fd ["row"] (spRdM c_NoText) := by
  refine Fun.ok1 F sc_read_mark (fun vs H Q E h => ?_) (fun cdv A outer s H vs Q E hr h => ?_)
  · obtain ⟨x, rfl, _⟩ := h; rfl
  obtain ⟨x, rfl, hx, q, hE⟩ := h
  refine ⟨_, (pss_cons (ps_set (i := 1) sc_read_mark.nd rfl (Or.inl rfl) (pe_fn1 C_read_parts hr (by decide : 1 ≤ 1) (by rfl) pass_on (pa_cons (pv 0) (pa_cons pe_int pa_nil))))
      (pss_one (ps_ret (pe_tup (pa_cons (pe_fn1 C_read_number hr (by decide : 1 ≤ 1) (by rfl) pass_on (pa_cons (pe_ix (kIx (K := K) rIxL ix_list) (pv 1) pe_int (by intro _ _; rfl)) pa_nil)) (pa_cons (pe_fn C_read_word hr (by decide : 1 ≤ 1) (by rfl) (pa_cons (pe_ix (kIx (K := K) rIxL ix_list) (pv 1) pe_int (by intro _ _; rfl)) pa_nil)) pa_nil)))))), ?_⟩
  refine ⟨_, rfl, x, 3, rfl, hx, fun e3 l H1 h1 hl el => ?_, fun c H1 h1 => hE (rdM_len c) _ h1⟩
  obtain ⟨k, n, w', es⟩ := len3 e3
  have hn : n.length ≤ x.length := spl_len (by rw [es]; simp)
  have em := rdM_is es
  rw [es] at el
  refine ⟨_, rfl, l, _, _, _, rfl, rfl, SqL.of el, rfl, n, rfl, by omega, fun j ej H2 h2 => ?_, fun ej H2 h2 => hE (by rw [em, ej]; rfl) _ (h1.trans h2)⟩
  refine ⟨_, rfl, l, _, _, _, rfl, rfl, SqL.of (h2 _ _ el), rfl, w', rfl, (by show 2 ≤ sizeLine; decide), fun p hp => ?_⟩
  exact q ((j : Int), rdW w') (by rw [em, ej]; rfl) p _ ((h1.trans h2).trans (same_new hp _)) ((h1.trans h2).free hp) upd_same

theorem sc_read_step : FnScope ["row", "parts"] ["row"] (defScope s_read_step) := ⟨rfl, rfl, rfl, by decide +kernel, rfl, by decide +kernel, by decide +kernel⟩
theorem ok_read_step (B : Bi mg) {c_ScribeError c_NoWay c_NoRoom c_NotPlain c_OtherSigns c_TooMany c_TwoWays c_NeverPlain c_NoText : Addr} (XB : Xb K mg c_ScribeError c_NoWay c_NoRoom c_NotPlain c_OtherSigns c_TooMany c_TwoWays c_NeverPlain c_NoText) (C_read_parts : Cal1 P w K mg base "read_parts" ["row", "count"] 1 (spParts c_NoText)) (C_read_number : Cal1 P w K mg base "read_number" ["figures"] 1 (spNum c_NoText)) (C_read_word : Cal P w K mg base "read_word" ["shown"] 1 (spRdW)) {f : Addr} {fd : FuncData} (F : Fun K "read_step" "read_step" s_read_step f fd) : FnOk P w K mg base (CX1 P w) 2 f fd ["row"] (spRdS c_NoText) := by
  refine Fun.ok1 F sc_read_step (fun vs H Q E h => ?_) (fun cdv A outer s H vs Q E hr h => ?_)
  · obtain ⟨x, rfl, _⟩ := h; rfl
  obtain ⟨x, rfl, hx, q, hE⟩ := h
  refine ⟨_, (pss_cons (ps_set (i := 1) sc_read_step.nd rfl (Or.inl rfl) (pe_fn1 C_read_parts hr (by decide : 1 ≤ 1) (by rfl) pass_on (pa_cons (pv 0) (pa_cons pe_int pa_nil))))
      (pss_one (ps_ret (pe_tup (pa_cons (pe_fn1 C_read_number hr (by decide : 1 ≤ 1) (by rfl) pass_on (pa_cons (pe_ix (kIx (K := K) rIxL ix_list) (pv 1) pe_int (by intro _ _; rfl)) pa_nil)) (pa_cons (pe_ix (kIx (K := K) rIxL ix_list) (pv 1) pe_int (by intro _ _; rfl)) (pa_cons (pe_fn C_read_word hr (by decide : 1 ≤ 1) (by rfl) (pa_cons (pe_ix (kIx (K := K) rIxL ix_list) (pv 1) pe_int (by intro _ _; rfl)) pa_nil)) (pa_cons (pe_fn1 C_read_number hr (by decide : 1 ≤ 1) (by rfl) pass_on (pa_cons (pe_ix (kIx (K := K) rIxL ix_list) (pv 1) pe_int (by intro _ _; rfl)) pa_nil)) pa_nil)))))))), ?_⟩
  refine ⟨_, rfl, x, 5, rfl, hx, fun e3 l H1 h1 hl el => ?_, fun c H1 h1 => hE (rdS_len c) _ h1⟩
  obtain ⟨k, n, g, w', n2, es⟩ := len5 e3
  have hn : n.length ≤ x.length := spl_len (by rw [es]; simp)
  have hn2 : n2.length ≤ x.length := spl_len (by rw [es]; simp)
  have em := rdS_is es
  rw [es] at el
  refine ⟨_, rfl, l, _, _, _, rfl, rfl, SqL.of el, rfl, n, rfl, by omega, fun j ej H2 h2 => ?_, fun ej H2 h2 => hE (by rw [em, ej]) _ (h1.trans h2)⟩
  rw [ej] at em
  refine ⟨_, rfl, l, _, _, _, rfl, rfl, SqL.of (h2 _ _ el), rfl, _, rfl, l, _, _, _, rfl, rfl, SqL.of (h2 _ _ el), rfl, w', rfl, ?_⟩
  refine ⟨_, rfl, l, _, _, _, rfl, rfl, SqL.of (h2 _ _ el), rfl, n2, rfl, by omega, fun j2 ej2 H3 h3 => ⟨(by show 4 ≤ sizeLine; decide), fun p hp => ?_⟩, fun ej2 H3 h3 => hE (by rw [em, ej2]; rfl) _ ((h1.trans h2).trans h3)⟩
  exact q ((j : Int), g, rdW w', (j2 : Int)) (by rw [em, ej2]; rfl) p _ (((h1.trans h2).trans h3).trans (same_new hp _)) (((h1.trans h2).trans h3).free hp) upd_same

theorem sc_read_rows : FnScope ["rows", "first", "begins", "steps", "ends", "row"] ["rows"] (defScope s_read_rows) := ⟨rfl, rfl, rfl, by decide +kernel, rfl, by decide +kernel, by decide +kernel⟩
theorem ok_read_rows (B : Bi mg) {c_ScribeError c_NoWay c_NoRoom c_NotPlain c_OtherSigns c_TooMany c_TwoWays c_NeverPlain c_NoText : Addr} (XB : Xb K mg c_ScribeError c_NoWay c_NoRoom c_NotPlain c_OtherSigns c_TooMany c_TwoWays c_NeverPlain c_NoText) (C_read_parts : Cal1 P w K mg base "read_parts" ["row", "count"] 1 (spParts c_NoText)) (C_read_number : Cal1 P w K mg base "read_number" ["figures"] 1 (spNum c_NoText)) (C_read_mark : Cal1 P w K mg base "read_mark" ["row"] 2 (spRdM c_NoText)) (C_read_step : Cal1 P w K mg base "read_step" ["row"] 2 (spRdS c_NoText)) {f : Addr} {fd : FuncData} (F : Fun K "read_rows" "read_rows" s_read_rows f fd) : FnOk P w K mg base (CX1 P w) 3 f fd ["rows"] (spRows K c_NoText) := by
  refine Fun.ok1 F sc_read_rows (fun vs H Q E h => ?_) (fun cdv A outer s H vs Q E hr h => ?_)
  · obtain ⟨p, rows, rfl, _⟩ := h; rfl
  obtain ⟨p, rows, rfl, hp, hne, hlen, hro, q, hE⟩ := h
  refine ⟨_, (pss_cons (ps_set (i := 1) sc_read_rows.nd rfl (Or.inl rfl) (pe_fn1 C_read_parts hr (by decide : 1 ≤ 2) (by rfl) pass_on (pa_cons (pe_ix (kIx (K := K) rIxL ix_list) (pv 0) pe_int (by intro _ _; rfl)) (pa_cons pe_int pa_nil))))
      (pss_cons (ps_set (i := 2) sc_read_rows.nd rfl (Or.inl rfl) (pe_lst pa_nil))
      (pss_cons (ps_set (i := 3) sc_read_rows.nd rfl (Or.inl rfl) (pe_lst pa_nil))
      (pss_cons (ps_set (i := 4) sc_read_rows.nd rfl (Or.inl rfl) (pe_lst pa_nil))
      (pss_cons (ps_for own_on (by rfl) (kPI (K := K) (fun k => iList k _) (pi_list (pe_slice (kSl (K := K) rSlL sl_list) (pv 0) (po_some pe_int) po_none))) (pg_name (i := 5) sc_read_rows.nd rfl (Or.inl rfl)) (pss_one (ps_if (pt_val (kPE (K := K) (fun k => tBM k _ _ _ _) (pe_bm PySem.F.plainAttrs_str PySem.F.slot_str_startswith PySem.F.type_str_startswith mt_starts (pv 5) (pa_cons pe_str pa_nil)))) (pss_one (ps_expr (kPE (K := K) (fun k => tBM k _ _ _ _) (pe_bm PySem.F.plainAttrs_list PySem.F.slot_list_append PySem.F.type_list_append mt_append (pv 2) (pa_cons (pe_fn1 C_read_mark hr (by decide : 2 ≤ 2) (by rfl) pass_on (pa_cons (pv 5) pa_nil)) pa_nil))))) (pss_one (ps_if (pt_val (kPE (K := K) (fun k => tBM k _ _ _ _) (pe_bm PySem.F.plainAttrs_str PySem.F.slot_str_startswith PySem.F.type_str_startswith mt_starts (pv 5) (pa_cons pe_str pa_nil)))) (pss_one (ps_expr (kPE (K := K) (fun k => tBM k _ _ _ _) (pe_bm PySem.F.plainAttrs_list PySem.F.slot_list_append PySem.F.type_list_append mt_append (pv 3) (pa_cons (pe_fn1 C_read_step hr (by decide : 2 ≤ 2) (by rfl) pass_on (pa_cons (pv 5) pa_nil)) pa_nil))))) (pss_one (ps_expr (kPE (K := K) (fun k => tBM k _ _ _ _) (pe_bm PySem.F.plainAttrs_list PySem.F.slot_list_append PySem.F.type_list_append mt_append (pv 4) (pa_cons (pe_fn1 C_read_mark hr (by decide : 2 ≤ 2) (by rfl) pass_on (pa_cons (pv 5) pa_nil)) pa_nil))))))))))
      (pss_one (ps_ret (pe_tup (pa_cons (pe_ix (kIx (K := K) rIxL ix_list) (pv 1) pe_int (by intro _ _; rfl)) (pa_cons (pe_fn1 C_read_number hr (by decide : 1 ≤ 2) (by rfl) pass_on (pa_cons (pe_ix (kIx (K := K) rIxL ix_list) (pv 1) pe_int (by intro _ _; rfl)) pa_nil)) (pa_cons (pv 2) (pa_cons (pv 3) (pa_cons (pv 4) pa_nil))))))))))))), ?_⟩
  cases rows with
  | nil => exact absurd rfl hne
  | cons hd rest =>
  rw [List.map_cons] at hp
  refine ⟨_, rfl, p, _, _, V.str hd, rfl, rfl, hp, atI_nat (j := 0) rfl, hd, 2, rfl, hro hd (List.mem_cons_self ..), fun e2 l H1 h1 hl el => ?_, fun c H1 h1 => hE (rdP_len c) _ h1⟩
  obtain ⟨g, n, es⟩ := len2 e2
  have em := rdP_cons (rest := rest) es
  have hn : n.length ≤ hd.length := spl_len (by rw [es]; simp)
  have hn3 := hro hd (List.mem_cons_self ..)
  rw [es] at el
  refine ⟨szl (by simp), fun fa hfa => ⟨szl (by simp), fun fb hfb => ⟨szl (by simp), fun fc hfc => ?_⟩⟩⟩
  have ka := same_new hfa (.lst [])
  have kb := same_new hfb (.lst [])
  have kc := same_new hfc (.lst [])
  have hfa0 : H fa = none := h1.free hfa
  have hfb0 : H fb = none := (h1.trans ka).free hfb
  have hfc0 : H fc = none := ((h1.trans ka).trans kb).free hfc
  have lfa : l ≠ fa := ne_of_none el hfa
  have lfb : l ≠ fb := ne_of_none (ka _ _ el) hfb
  have lfc : l ≠ fc := ne_of_none (kb _ _ (ka _ _ el)) hfc
  have ea := upd_same (H := H1) (a := fa) (o := .lst [])
  have ab : fa ≠ fb := ne_of_none ea hfb
  have ac : fa ≠ fc := ne_of_none (kb _ _ ea) hfc
  have eb := upd_same (H := upd H1 fa (.lst [])) (a := fb) (o := .lst [])
  have bc : fb ≠ fc := ne_of_none eb hfc
  have ec := upd_same (H := upd (upd H1 fa (.lst [])) fb (.lst [])) (a := fc) (o := .lst [])
  have kbc := kb.trans kc
  have ea := kbc _ _ ea
  have eb := kc _ _ eb
  have k1c := (ka.trans kb).trans kc
  have el := k1c _ _ el
  have g1 := h1.trans k1c
  generalize upd (upd (upd H1 fa (.lst [])) fb (.lst [])) fc (.lst []) = H4 at ea eb ec el g1 ⊢
  refine ⟨_, rfl, _, rfl, p, _, rfl, g1.seq hp, fun pa hpa => ?_⟩
  rw [cut1]
  have hpa0 : H pa = none := g1.free hpa
  have apa : fa ≠ pa := ne_of_none ea hpa
  have bpa : fb ≠ pa := ne_of_none eb hpa
  have cpa : fc ≠ pa := ne_of_none ec hpa
  have k5 := same_new hpa (.lst (rest.map V.str))
  have e5 := upd_same (H := H4) (a := pa) (o := .lst (rest.map V.str))
  have ea := k5 _ _ ea
  have eb := k5 _ _ eb
  have ec := k5 _ _ ec
  have el := k5 _ _ el
  have g1 := g1.trans k5
  refine ⟨pa, rfl, ⟨_, SqL.of e5⟩, ?_⟩
  generalize upd H4 pa (.lst (rest.map V.str)) = H5 at ea eb ec el e5 g1 ⊢
  
  have rl : rest.length ≤ 3900 := by rw [List.length_cons] at hlen; omega
  refine for_list (xs := rest.map V.str) (fun i σ H' => Same H H' ∧ i ≤ rest.length ∧ (∃ x5, σ = [some (.ref p), some (.ref l), some (.ref fa), some (.ref fb), some (.ref fc), x5]) ∧ H' pa = some (.lst (rest.map V.str)) ∧ H' l = some (.lst ([g, n].map V.str)) ∧ ∃ (z : Tri) (zb zs ze : List V), (rest.take i).foldlM stP (([], [], []) : Tri) = some z ∧ z.1.length ≤ i ∧ z.2.1.length ≤ i ∧ z.2.2.length ≤ i ∧ H' fa = some (.lst zb) ∧ H' fb = some (.lst zs) ∧ H' fc = some (.lst ze) ∧ Paired (MkV K H') z.1 zb ∧ Paired (StV K H') z.2.1 zs ∧ Paired (MkV K H') z.2.2 ze)
    ⟨g1, Nat.zero_le _, ⟨none, rfl⟩, e5, el, ([], [], []), [], [], [], rfl, Nat.le_refl _, Nat.le_refl _, Nat.le_refl _, ea, eb, ec, .nil, .nil, .nil⟩ (fun i σ H' _ z => SqL.of z.2.2.2.1) ?_ ?_
  · rintro i y σ H6 hy ⟨g6, hi, ⟨x5, rfl⟩, e6, el6, z, zb, zs, ze, ez, n1, n2, n3, ia, ib, ic, pB, pS, pE⟩
    rw [List.getElem?_map] at hy
    obtain ⟨row, hrow, rfl⟩ := Option.map_eq_some_iff.mp hy
    have hil : i < rest.length := (List.getElem?_eq_some_iff.mp hrow).1
    have hrl := hro row (List.mem_cons_of_mem _ (List.mem_of_getElem? hrow))
    have lz1 := pB.length
    have lz2 := pS.length
    have lz3 := pE.length
    have et := fold_take hrow ez
    have bad : stP z row = none → rdP (hd :: rest) = none := fun c => by
      rw [em, fold_none (i := i + 1) (et.trans c)]
    refine ⟨_, rfl, rfl, _, _, rfl, rfl, _, rfl, ?_⟩
    cases c1 : Txt.startswith row (Str.ofString "begin ") with
    | true =>
      have e0 : stP z row = (rdM row).map fun m => (z.1 ++ [m], z.2.1, z.2.2) := by unfold stP; rw [if_pos c1]
      refine iteT ⟨_, rfl, .inl ⟨rfl, _, SqL.of ia⟩, _, rfl, row, rfl, hrl, fun m er b H7 g7 hb eb7 => ?_, fun er H7 g7 => hE (bad (by rw [e0, er]; rfl)) _ (g6.trans g7)⟩
      rw [er] at e0
      have ia7 := g7 _ _ ia
      have gt := grow_upd ia7 (.lst (zb ++ [.ref b]))
      have gr := Grow.trans (Same.grow g7) gt
      refine ⟨fa, zb, .ref b, rfl, rfl, ia7, szl' (by omega), same_updN (g6.trans g7) hfa0, by omega, ⟨_, rfl⟩, by rw [upd_ne apa.symm]; exact g7 _ _ e6, by rw [upd_ne lfa]; exact g7 _ _ el6, (z.1 ++ [m], z.2.1, z.2.2), zb ++ [.ref b], zs, ze, et.trans e0, (by rw [List.length_append, List.length_singleton]; omega), (by show z.2.1.length ≤ _; omega), (by show z.2.2.length ≤ _; omega), upd_same, by rw [upd_ne ab.symm]; exact g7 _ _ ib, by rw [upd_ne ac.symm]; exact g7 _ _ ic, ?_, ?_, ?_⟩
      · exact paired_append (paired_mono (fun _ _ => MkV.mono gr) pB) (.cons ⟨b, rfl, gt.seqT (SqT.of eb7)⟩ .nil)
      · exact paired_mono (fun _ _ => StV.mono gr) pS
      · exact paired_mono (fun _ _ => MkV.mono gr) pE
    | false =>
      refine iteF ⟨_, rfl, rfl, _, _, rfl, rfl, _, rfl, ?_⟩
      cases c2 : Txt.startswith row (Str.ofString "step ") with
      | true =>
        have e0 : stP z row = (rdS row).map fun t => (z.1, z.2.1 ++ [t], z.2.2) := by unfold stP; rw [c1, if_neg Bool.false_ne_true, if_pos c2]
        refine iteT ⟨_, rfl, .inl ⟨rfl, _, SqL.of ib⟩, _, rfl, row, rfl, hrl, fun m er b H7 g7 hb eb7 => ?_, fun er H7 g7 => hE (bad (by rw [e0, er]; rfl)) _ (g6.trans g7)⟩
        rw [er] at e0
        have ib7 := g7 _ _ ib
        have gt := grow_upd ib7 (.lst (zs ++ [.ref b]))
        have gr := Grow.trans (Same.grow g7) gt
        refine ⟨fb, zs, .ref b, rfl, rfl, ib7, szl' (by omega), same_updN (g6.trans g7) hfb0, by omega, ⟨_, rfl⟩, by rw [upd_ne bpa.symm]; exact g7 _ _ e6, by rw [upd_ne lfb]; exact g7 _ _ el6, (z.1, z.2.1 ++ [m], z.2.2), zb, zs ++ [.ref b], ze, et.trans e0, (by show z.1.length ≤ _; omega), (by rw [List.length_append, List.length_singleton]; omega), (by show z.2.2.length ≤ _; omega), by rw [upd_ne ab]; exact g7 _ _ ia, upd_same, by rw [upd_ne bc.symm]; exact g7 _ _ ic, ?_, ?_, ?_⟩
        · exact paired_mono (fun _ _ => MkV.mono gr) pB
        · exact paired_append (paired_mono (fun _ _ => StV.mono gr) pS) (.cons ⟨b, rfl, gt.seqT (SqT.of eb7)⟩ .nil)
        · exact paired_mono (fun _ _ => MkV.mono gr) pE
      | false =>
        have e0 : stP z row = (rdM row).map fun m => (z.1, z.2.1, z.2.2 ++ [m]) := by unfold stP; rw [c1, if_neg Bool.false_ne_true, c2, if_neg Bool.false_ne_true]
        refine iteF ⟨_, rfl, .inl ⟨rfl, _, SqL.of ic⟩, _, rfl, row, rfl, hrl, fun m er b H7 g7 hb eb7 => ?_, fun er H7 g7 => hE (bad (by rw [e0, er]; rfl)) _ (g6.trans g7)⟩
        rw [er] at e0
        have ic7 := g7 _ _ ic
        have gt := grow_upd ic7 (.lst (ze ++ [.ref b]))
        have gr := Grow.trans (Same.grow g7) gt
        refine ⟨fc, ze, .ref b, rfl, rfl, ic7, szl' (by omega), same_updN (g6.trans g7) hfc0, by omega, ⟨_, rfl⟩, by rw [upd_ne cpa.symm]; exact g7 _ _ e6, by rw [upd_ne lfc]; exact g7 _ _ el6, (z.1, z.2.1, z.2.2 ++ [m]), zb, zs, ze ++ [.ref b], et.trans e0, (by show z.1.length ≤ _; omega), (by show z.2.1.length ≤ _; omega), (by rw [List.length_append, List.length_singleton]; omega), by rw [upd_ne ac]; exact g7 _ _ ia, by rw [upd_ne bc]; exact g7 _ _ ib, upd_same, ?_, ?_, ?_⟩
        · exact paired_mono (fun _ _ => MkV.mono gr) pB
        · exact paired_mono (fun _ _ => StV.mono gr) pS
        · exact paired_append (paired_mono (fun _ _ => MkV.mono gr) pE) (.cons ⟨b, rfl, gt.seqT (SqT.of eb7)⟩ .nil)
  rintro σ H6 ⟨g6, _, ⟨x5, rfl⟩, e6, el6, z, zb, zs, ze, ez, n1, n2, n3, ia, ib, ic, pB, pS, pE⟩
  rw [List.length_map, List.take_length] at ez
  rw [ez] at em
  refine ⟨_, rfl, l, _, _, _, rfl, rfl, SqL.of el6, rfl, _, rfl, l, _, _, _, rfl, rfl, SqL.of el6, rfl, n, rfl, by omega, fun k ek H7 g7 => ⟨_, rfl, _, rfl, _, rfl, (by show 5 ≤ sizeLine; decide), fun v hv => ?_⟩, fun ek H7 g7 => hE (by rw [em, ek]; rfl) _ (g6.trans g7)⟩
  have gv := same_new hv (.tup [V.str g, V.int (k : Int), V.ref fa, V.ref fb, V.ref fc])
  have gg := g7.trans gv
  exact q ⟨g, (k : Int), z.1, z.2.1, z.2.2⟩ (by rw [em, ek]; rfl) _ _ fa fb fc ((g6.trans g7).trans gv) ⟨v, zb, zs, ze, rfl, SqT.of upd_same, gg _ _ ia, gg _ _ ib, gg _ _ ic, paired_mono (fun _ _ => MkV.mono (Same.grow gg)) pB, paired_mono (fun _ _ => StV.mono (Same.grow gg)) pS, paired_mono (fun _ _ => MkV.mono (Same.grow gg)) pE⟩ ⟨hfa0, hfb0, hfc0, ab, ac, bc⟩

theorem sc_read_scribe : FnScope ["text", "told"] ["text"] (defScope s_read_scribe) := ⟨rfl, rfl, rfl, by decide +kernel, rfl, by decide +kernel, by decide +kernel⟩
theorem ok_read_scribe (B : Bi mg) {c_ScribeError c_NoWay c_NoRoom c_NotPlain c_OtherSigns c_TooMany c_TwoWays c_NeverPlain c_NoText : Addr} (XB : Xb K mg c_ScribeError c_NoWay c_NoRoom c_NotPlain c_OtherSigns c_TooMany c_TwoWays c_NeverPlain c_NoText) (C_read_rows : Cal1 P w K mg base "read_rows" ["rows"] 3 (spRows K c_NoText)) (C_is_scribe : Cal P w K mg base "is_scribe" ["thing"] 4 (spScr K)) (C_shown_scribe : Cal P w K mg base "shown_scribe" ["scribe"] 3 (spShown K)) {f : Addr} {fd : FuncData} (F : Fun K "read_scribe" "read_scribe" s_read_scribe f fd) : FnOk P w K mg base (CX1 P w) 5 f fd ["text"] (spRead K c_NoText) := by
  refine Fun.ok1 F sc_read_scribe (fun vs H Q E h => ?_) (fun cdv A outer s H vs Q E hr h => ?_)
  · obtain ⟨x, rfl, _⟩ := h; rfl
  obtain ⟨x, rfl, hx, q, hE⟩ := h
  refine ⟨_, (pss_cons (ps_set (i := 1) sc_read_scribe.nd rfl (Or.inl rfl) (pe_fn1 C_read_rows hr (by decide : 3 ≤ 4) (by rfl) pass_on (pa_cons (kPE (K := K) (fun k => tBM k _ _ _ _) (pe_bm PySem.F.plainAttrs_str PySem.F.slot_str_split PySem.F.type_str_split mt_split (pv 0) (pa_cons pe_str pa_nil))) pa_nil)))
      (pss_cons (ps_if (PW.pt (pw_or (pt_not (pt_val (pe_fn C_is_scribe hr (by decide : 4 ≤ 4) (by rfl) (pa_cons (pv 1) pa_nil)))) (pw_or1 (pt_cmpR op_ne (pe_fn C_shown_scribe hr (by decide : 3 ≤ 4) (by rfl) (pa_cons (pv 1) pa_nil)) (pv 0) (nomark _))))) (pss_one (ps_raise XB.own_NoText (by rfl) (by rfl) raise_on pe_str)) pss_nil)
      (pss_one (ps_ret (pv 1))))), ?_⟩
  have e1 : Txt.split x ⟨#[10]⟩ = lns x := rfl
  have hm := lns_many x
  refine ⟨_, rfl, rfl, _, 10, rfl, by rw [nl_eq], by omega, by rw [e1]; omega, fun l hl => ?_⟩
  rw [e1]
  have g1 := same_new hl (.lst ((lns x).map V.str))
  refine ⟨l, lns x, rfl, SqL.of upd_same, lns_ne x, by omega, fun row hr => Nat.le_trans (lns_len hr) hx, fun s es v H2 pb ps pe g2 hN ap => ?_, fun es H2 g2 => hE (RL_none es) _ (g1.trans g2)⟩
  have sm := rdP_small hx es
  refine ⟨_, rfl, v, dScr s, rfl, hN.v.rep, sm.small, fun H3 g3 => ⟨_, rfl, ?_⟩⟩
  cases ed : scrD (dScr s) with
  | false => exact iteT ⟨rfl, hE (RL_bad es (fun z => by rw [ed] at z; exact Bool.false_ne_true z.1)) _ ((g1.trans g2).trans g3)⟩
  | true =>
  have gd := Gd.of ed
  have ok := gd.sm sm
  refine iteF ⟨_, rfl, v, s, pb, ps, pe, rfl, (hN.mono g3).v, ok, fun H4 g4 => ⟨_, rfl, rfl, _, rfl, iteNd (fun c => ?_) (fun c => ?_)⟩⟩
  · exact ⟨rfl, hE (RL_bad es (fun z => c (by rw [z.2]))) _ (((g1.trans g2).trans g3).trans g4)⟩
  · have g := (g2.trans g3).trans g4
    have ex : shown s = x := by injection c
    exact ⟨_, rfl, q s (RL_iff.mpr ⟨gd, ex⟩) ok v _ pb ps pe (g1.trans g) (hN.mono (g3.trans g4)) ⟨g1.free ap.nb, g1.free ap.ns, g1.free ap.ne, ap.bs, ap.be, ap.se⟩⟩

theorem sc_law_cell_at : FnScope ["_law_script", "_law_k"] ["_law_script", "_law_k"] (defScope s_law_cell_at) := ⟨rfl, rfl, rfl, by decide +kernel, rfl, by decide +kernel, by decide +kernel⟩
theorem ok_law_cell_at (B : Bi mg) {c_ScribeError c_NoWay c_NoRoom c_NotPlain c_OtherSigns c_TooMany c_TwoWays c_NeverPlain c_NoText : Addr} (XB : Xb K mg c_ScribeError c_NoWay c_NoRoom c_NotPlain c_OtherSigns c_TooMany c_TwoWays c_NeverPlain c_NoText)  {f : Addr} {fd : FuncData} (F : Fun K "_law_cell_at" "_law_cell_at" s_law_cell_at f fd) : FnOk P w K mg base CX0 1 f fd ["_law_script", "_law_k"] (spCell K) := by
  refine F.ok sc_law_cell_at (fun vs H Q E h => ?_) (fun cdv A outer s H vs Q E hr h => ?_)
  · obtain ⟨a, ns, k, rfl, _⟩ := h; rfl
  obtain ⟨a, ns, k, rfl, hS, hk, q⟩ := h
  refine ⟨_, (pss_cons (ps_if (pt_cmpR op_lt (pv 1) (pe_callB (kLen (K := K)) (by rfl) B.len bt_len (pa_cons (pv 0) pa_nil)) (nomark _)) (pss_one (ps_ret (pe_ix (kIx (K := K) rIxL ix_list) (pv 0) (pv 1) (by intro _ _; rfl)))) pss_nil)
      (pss_one (ps_ret pe_int))), ?_⟩
  refine ⟨_, rfl, _, rfl, a, _, rfl, .inl hS, _, _, rfl, rfl, _, rfl, ?_⟩
  rw [List.length_map]
  refine iteDd (fun c => ?_) (fun c => ?_)
  · obtain ⟨v, h1, h2⟩ := at_some (xs := ns) hk c
    refine ⟨_, rfl, _, rfl, a, _, _, .int v, rfl, rfl, hS, ?_, ?_⟩
    · obtain ⟨j, rfl⟩ := Int.eq_ofNat_of_zero_le hk
      exact atI_nat (by rw [List.getElem?_map]; rw [Int.toNat_natCast] at h2; rw [h2]; rfl)
    · have e : cellAt ns k = v := by unfold cellAt; rw [if_pos c, h2]; rfl
      rw [← e]; exact q
  · have e : cellAt ns k = 0 := by unfold cellAt; rw [if_neg c]
    rw [e] at q
    exact q

theorem sc_law_whole : FnScope ["_law_found"] ["_law_found"] (defScope s_law_whole) := ⟨rfl, rfl, rfl, by decide +kernel, rfl, by decide +kernel, by decide +kernel⟩
theorem ok_law_whole (B : Bi mg) {c_ScribeError c_NoWay c_NoRoom c_NotPlain c_OtherSigns c_TooMany c_TwoWays c_NeverPlain c_NoText : Addr} (XB : Xb K mg c_ScribeError c_NoWay c_NoRoom c_NotPlain c_OtherSigns c_TooMany c_TwoWays c_NeverPlain c_NoText)  {f : Addr} {fd : FuncData} (F : Fun K "_law_whole" "_law_whole" s_law_whole f fd) : FnOk P w K mg base CX0 1 f fd ["_law_found"] (spWholeI K) := by
  refine F.ok sc_law_whole (fun vs H Q E h => ?_) (fun cdv A outer s H vs Q E hr h => ?_)
  · obtain ⟨i, rfl, _⟩ := h; rfl
  obtain ⟨i, rfl, q⟩ := h
  refine ⟨_, (pss_one (ps_ret (pe_and (pe_callB (kCall (K := K) rIs call_isinst) (by rfl) B.isinstance bt_isinstance (pa_cons (pv 0) (pa_cons (pe_ty (by rfl) B.int bt_int) pa_nil))) (pe_one (pe_not (pe_callB (kCall (K := K) rIs call_isinst) (by rfl) B.isinstance bt_isinstance (pa_cons (pv 0) (pa_cons (pe_ty (by rfl) B.bool bt_bool) pa_nil)))))))), ?_⟩
  refine ⟨_, rfl, _, "int", _, _, rfl, TyOf.int _, is_int, _, rfl, iteT ?_⟩
  exact ⟨_, rfl, _, "bool", _, _, rfl, TyOf.int _, is_intb, _, rfl, q⟩

theorem sc_law_mixed : FnScope ["_law_cell", "_law_k", "_law_number_here"] ["_law_cell", "_law_k"] (defScope s_law_mixed) := ⟨rfl, rfl, rfl, by decide +kernel, rfl, by decide +kernel, by decide +kernel⟩
theorem ok_law_mixed (B : Bi mg) {c_ScribeError c_NoWay c_NoRoom c_NotPlain c_OtherSigns c_TooMany c_TwoWays c_NeverPlain c_NoText : Addr} (XB : Xb K mg c_ScribeError c_NoWay c_NoRoom c_NotPlain c_OtherSigns c_TooMany c_TwoWays c_NeverPlain c_NoText)  {f : Addr} {fd : FuncData} (F : Fun K "_law_mixed" "_law_mixed" s_law_mixed f fd) : FnOk P w K mg base CX0 1 f fd ["_law_cell", "_law_k"] (spMixed) := by
  refine F.ok sc_law_mixed (fun vs H Q E h => ?_) (fun cdv A outer s H vs Q E hr h => ?_)
  · obtain ⟨c, k, rfl, _⟩ := h; rfl
  obtain ⟨c, k, rfl, q⟩ := h
  refine ⟨_, (pss_cons (ps_set (i := 2) sc_law_mixed.nd rfl (Or.inl rfl) (pe_abs (pe_op op_mod (pe_op op_add (pe_op op_add (pe_op op_mul (pe_op op_mod (pv 0) pe_int) pe_int) (pe_op op_mul (pv 1) pe_int)) pe_int) pe_int)))
      (pss_cons (ps_set (i := 2) sc_law_mixed.nd rfl (Or.inl rfl) (pe_abs (pe_op op_mod (pe_op op_mul (pv 2) (pv 2)) pe_int)))
      (pss_one (ps_ret (pe_op op_mod (pe_op op_mul (pv 2) (pv 2)) pe_int))))), ?_⟩
  refine ⟨fun v H' => H = H' ∧ isNum 0 2147483647 v, ⟨_, rfl, _, _, rfl, rfl, pz, _, _, rfl, rfl, .inr ⟨by decide, by decide⟩, _, rfl, _, _, rfl, rfl, .inr ⟨by decide, by decide⟩, _, _, rfl, rfl, _, _, rfl, rfl, _, _, rfl, rfl, pz, rfl, _, rfl, by omega, by omega⟩, ?_⟩
  rintro _ _ ⟨rfl, n, rfl, h0, h1⟩
  refine ⟨fun v H' => H = H' ∧ isNum 0 2147483647 v, ⟨_, rfl, _, rfl, _, _, rfl, rfl, .inl ⟨by omega, by omega⟩, _, _, rfl, rfl, pz, rfl, _, rfl, by omega, by omega⟩, ?_⟩
  rintro _ _ ⟨rfl, m, rfl, h2, h3⟩
  exact ⟨_, rfl, _, rfl, _, _, rfl, rfl, .inl ⟨by omega, by omega⟩, _, _, rfl, rfl, pz, q _ (Int.emod_nonneg _ (by decide)) (Int.emod_lt_of_pos _ (by decide))⟩

theorem sc_law_word : FnScope ["_law_rest_here", "_law_letters_here", "_law_size", "_law_word_here", "_law_k"] ["_law_rest_here"] (defScope s_law_word) := ⟨rfl, rfl, rfl, by decide +kernel, rfl, by decide +kernel, by decide +kernel⟩
theorem ok_law_word (B : Bi mg) {c_ScribeError c_NoWay c_NoRoom c_NotPlain c_OtherSigns c_TooMany c_TwoWays c_NeverPlain c_NoText : Addr} (XB : Xb K mg c_ScribeError c_NoWay c_NoRoom c_NotPlain c_OtherSigns c_TooMany c_TwoWays c_NeverPlain c_NoText)  {f : Addr} {fd : FuncData} (F : Fun K "_law_word" "_law_word" s_law_word f fd) : FnOk P w K mg base CX0 1 f fd ["_law_rest_here"] (spWord) := by
  refine F.ok sc_law_word (fun vs H Q E h => ?_) (fun cdv A outer s H vs Q E hr h => ?_)
  · obtain ⟨a, rfl, _⟩ := h; rfl
  obtain ⟨c, rfl, q⟩ := h
  refine ⟨_, (pss_cons (ps_set (i := 1) sc_law_word.nd rfl (Or.inl rfl) (pe_ix (kIx (K := K) rPick ix_pick) (pe_lst (pa_cons pe_str (pa_cons pe_str (pa_cons pe_str pa_nil)))) (pe_op op_mod (pv 0) pe_int) (by intro _ _; rfl)))
      (pss_cons (ps_set (i := 2) sc_law_word.nd rfl (Or.inl rfl) (pe_ix (kIx (K := K) rPick ix_pick) (pe_lst (pa_cons pe_int (pa_cons pe_int (pa_cons pe_int (pa_cons pe_int (pa_cons pe_int (pa_cons pe_int pa_nil))))))) (pe_op op_mod (pe_op op_fdiv (pv 0) pe_int) pe_int) (by intro _ _; rfl)))
      (pss_mid (ps_if (pt_cmpR op_eq (pe_op op_mod (pe_op op_fdiv (pv 0) pe_int) pe_int) pe_int (nomark _)) (pss_cons (ps_set (i := 2) sc_law_word.nd rfl (Or.inl rfl) (pe_op op_mod (pe_op op_fdiv (pv 0) pe_int) pe_int))
      (pss_one (ps_set (i := 0) sc_law_word.nd rfl (Or.inl rfl) (pe_op op_fdiv (pv 0) pe_int)))) pss_nil)
      (pss_cons (ps_set (i := 0) sc_law_word.nd rfl (Or.inl rfl) (pe_op op_fdiv (pv 0) pe_int))
      (pss_cons (ps_set (i := 3) sc_law_word.nd rfl (Or.inl rfl) pe_str)
      (pss_cons (ps_for PassesOwn.never (by rfl) (pi_range1 (by rfl) B.range (pa_cons (pv 2) pa_nil)) (pg_name (i := 4) sc_law_word.nd rfl (Or.inl rfl)) (pss_cons (ps_set (i := 3) sc_law_word.nd rfl (Or.inl rfl) (pe_op op_add_str (pv 3) (pe_ix ix_str (pv 1) (pe_op op_mod (pe_op op_add (pv 0) (pe_op op_mul (pv 4) (pv 4))) (pe_callB call_len_str (by rfl) B.len bt_len (pa_cons (pv 1) pa_nil))) (by intro _ _; rfl))))
      (pss_one (ps_set (i := 0) sc_law_word.nd rfl (Or.inl rfl) (pe_op op_fdiv (pv 0) (pe_callB call_len_str (by rfl) B.len bt_len (pa_cons (pv 1) pa_nil)))))))
      (pss_one (ps_ret (pv 3))))))))), ?_⟩
  refine ⟨szl (by simp), fun p hp => ⟨_, rfl, _, _, rfl, rfl, pz, p, _, _, rfl, rfl, SqL.of upd_same, by omega, (by show c % 3 < 3; omega), isLet, ?_, ?_⟩⟩
  · intro v hv
    simp only [List.mem_cons, List.not_mem_nil, or_false] at hv
    rcases hv with rfl | rfl | rfl <;> exact ⟨_, rfl, by decide +kernel, by decide +kernel, by decide +kernel⟩
  rintro _ ⟨z, rfl, hz1, hz2, hzl⟩
  have g1 := same_new hp (.lst [V.str "ab", V.str "a", V.str "abcdefghijklmnopqrstuvwxyz"])
  generalize upd H p (.lst [V.str "ab", V.str "a", V.str "abcdefghijklmnopqrstuvwxyz"]) = H1 at g1 ⊢
  refine ⟨szl (by simp), fun p2 hp2 => ⟨_, rfl, _, _, rfl, rfl, ⟨by decide, by decide⟩, _, _, rfl, rfl, pz, p2, _, _, rfl, rfl, SqL.of upd_same, by omega, (by show c / 3 % 6 < 6; omega), isNum 0 4, ?_, ?_⟩⟩
  · intro v hv
    simp only [List.mem_cons, List.not_mem_nil, or_false] at hv
    rcases hv with rfl | rfl | rfl | rfl | rfl | rfl <;> exact ⟨_, rfl, by decide, by decide⟩
  rintro _ ⟨n, rfl, hn0, hn4⟩
  have g2 := g1.trans (same_new hp2 (.lst [V.int 0, V.int 1, V.int 1, V.int 2, V.int 3, V.int 4]))
  generalize upd H1 p2 (.lst [V.int 0, V.int 1, V.int 1, V.int 2, V.int 3, V.int 4]) = H2 at g2 ⊢
  refine ⟨fun σ H' => H2 = H' ∧ ∃ n r : Int, 0 ≤ n ∧ n ≤ 40 ∧ σ = [some (.int r), some (.str z), some (.int n), none, none], ?_, ?_⟩
  · refine ⟨_, rfl, _, _, rfl, rfl, ⟨by decide, by decide⟩, _, _, rfl, rfl, pz, rfl, _, rfl, iteDd (fun _ => ?_) (fun _ => ⟨rfl, n, c, hn0, by omega, rfl⟩)⟩
    refine ⟨_, rfl, _, _, rfl, rfl, ⟨by decide, by decide⟩, _, _, rfl, rfl, pz, ?_⟩
    refine ⟨_, rfl, _, _, rfl, rfl, ⟨by decide, by decide⟩, ?_⟩
    exact ⟨rfl, c / 216 % 41, _, by omega, by omega, rfl⟩
  rintro σ H' ⟨rfl, n, r, h0, h1, rfl⟩
  refine ⟨_, rfl, _, _, rfl, rfl, ⟨by decide, by decide⟩, ?_⟩
  refine ⟨_, rfl, _, rfl, by omega, by omega, ?_⟩
  refine for_range (fun i σ H' => H2 = H' ∧ ∃ (r : Int) (x : Str) (y : Option V), x.length = i ∧ (∀ c ∈ cl x, 97 ≤ c ∧ c ≤ 122) ∧ σ = [some (.int r), some (.str z), some (.int n), some (.str x), y]) ⟨rfl, _, "", _, rfl, cl_nil, rfl⟩ ?_ ?_
  · rintro i σ H' hi ⟨rfl, r2, x, y, hx, hxl, rfl⟩
    have hzp : (0 : Int) < z.length ∧ (z.length : Int) < 1073741824 := by omega
    obtain ⟨c', hc, hm⟩ := at_mem (xs := cl z) (i := (r2 + (0 + (i : Int)) * (0 + (i : Int))) % (z.length : Int)) (Int.emod_nonneg _ (by omega)) (by rw [cl_length]; exact Int.emod_lt_of_pos _ hzp.1)
    refine ⟨_, rfl, _, rfl, _, rfl, _, rfl, _, rfl, _, _, rfl, rfl, .inl ⟨by omega, by omega⟩, _, _, rfl, rfl, _, rfl, z, rfl, szl (by omega), _, _, rfl, rfl, hzp.1, z, _, c', rfl, rfl, szl (by omega), hc, _, _, rfl, rfl, szl (by rw [hx, one_len]; omega), ?_⟩
    refine ⟨_, rfl, _, rfl, z, rfl, szl (by omega), _, _, rfl, rfl, hzp, ?_⟩
    refine ⟨rfl, _, _, _, ?_, ?_, rfl⟩
    · rw [len_app, hx]; rfl
    · intro c1 h1
      rw [cl_append] at h1
      rcases List.mem_append.mp h1 with h1 | h1
      · exact hxl c1 h1
      · rw [cl_one, List.mem_singleton] at h1
        subst h1; exact hzl c1 hm
  · rintro σ H' ⟨rfl, r2, x, y, hx, hxl, rfl⟩
    refine ⟨_, rfl, ?_⟩
    exact q x _ ⟨by omega, hxl⟩ g2

theorem sc_law_signs : FnScope ["_law_number_here", "_law_letters_here", "_law_many"] ["_law_number_here"] (defScope s_law_signs) := ⟨rfl, rfl, rfl, by decide +kernel, rfl, by decide +kernel, by decide +kernel⟩
theorem ok_law_signs (B : Bi mg) {c_ScribeError c_NoWay c_NoRoom c_NotPlain c_OtherSigns c_TooMany c_TwoWays c_NeverPlain c_NoText : Addr} (XB : Xb K mg c_ScribeError c_NoWay c_NoRoom c_NotPlain c_OtherSigns c_TooMany c_TwoWays c_NeverPlain c_NoText)  {f : Addr} {fd : FuncData} (F : Fun K "_law_signs" "_law_signs" s_law_signs f fd) : FnOk P w K mg base CX0 1 f fd ["_law_number_here"] (spSigns2) := by
  refine F.ok sc_law_signs (fun vs H Q E h => ?_) (fun cdv A outer s H vs Q E hr h => ?_)
  · obtain ⟨n, rfl, _⟩ := h; rfl
  obtain ⟨m, rfl, q⟩ := h
  refine ⟨_, (pss_cons (ps_set (i := 1) sc_law_signs.nd rfl (Or.inr rfl) pe_str)
      (pss_cons (ps_set (i := 2) sc_law_signs.nd rfl (Or.inl rfl) (pe_ix (kIx (K := K) rPick ix_pick) (pe_lst (pa_cons pe_int (pa_cons pe_int (pa_cons pe_int (pa_cons pe_int (pa_cons pe_int pa_nil)))))) (pe_op op_mod (pe_op op_fdiv (pv 0) pe_int) pe_int) (by intro _ _; rfl)))
      (pss_one (ps_ret (kPE (K := K) (fun k => tBM k _ _ _ _) (pe_bm PySem.F.plainAttrs_str PySem.F.slot_str_join PySem.F.type_str_join mt_join pe_str (pa_cons (pe_comp rfl (blk_mk (N' := ["_law_k", "_law_letters_here", "_law_number_here"]) (js := [none, some 1, some 0]) rfl (by decide +kernel) rfl (by decide +kernel) rfl rfl) (pi_range1 (by rfl) B.range (pa_cons (pv 2) pa_nil)) (fun _ _ _ _ _ => (pg_name (i := 0) (show List.Nodup (["_law_k", "_law_letters_here", "_law_number_here"] : List Str) by decide +kernel) rfl (Or.inl rfl))) (fun _ _ _ _ _ => pf_nil) (fun _ _ _ _ _ => (pe_ix ix_str (pv 1) (pe_op op_mod (pe_op op_add (pv 2) (pe_op op_mul pe_int (pv 0))) pe_int) (by intro _ _; rfl)))) pa_nil))))))), ?_⟩
  refine ⟨szl (by simp), fun p hp => ⟨_, rfl, _, _, rfl, rfl, ⟨by decide, by decide⟩, _, _, rfl, rfl, pz, p, _, _, rfl, rfl, SqL.of upd_same, by omega, (by show m / 26 % 5 < 5; omega), isNum 1 5, ?_, ?_⟩⟩
  · intro v hv
    simp only [List.mem_cons, List.not_mem_nil, or_false] at hv
    rcases hv with rfl | rfl | rfl | rfl | rfl <;> exact ⟨_, rfl, by decide, by decide⟩
  rintro _ ⟨n, rfl, hn1, hn5⟩
  have g1 := same_new hp (.lst [V.int 1, V.int 2, V.int 2, V.int 3, V.int 5])
  generalize upd H p (.lst [V.int 1, V.int 2, V.int 2, V.int 3, V.int 5]) = H1 at g1 ⊢
  obtain ⟨k, rfl⟩ := Int.eq_ofNat_of_zero_le (show 0 ≤ n by omega)
  refine ⟨rfl, _, rfl, _, rfl, by omega, by omega, ?_⟩
  refine comp_range (fun i ys τ H' => H1 = H' ∧ (∃ x, τ = [x, some (.str "abcdefghijklmnopqrstuvwxyz"), some (.int m)]) ∧ i ≤ 5 ∧ ys = ((List.range i).map (sgC m)).map fun c => V.str ⟨#[c]⟩) ⟨rfl, ⟨_, rfl⟩, Nat.zero_le _, rfl⟩ ?_ ?_
  · rintro i ys τ _ hi ⟨rfl, ⟨x, rfl⟩, h5, rfl⟩
    have hj0 := Int.emod_nonneg (m + 7 * (0 + (i : Int))) (show (26 : Int) ≠ 0 by decide)
    have hj1 := Int.emod_lt_of_pos (m + 7 * (0 + (i : Int))) (show (0 : Int) < 26 by decide)
    refine ⟨_, rfl, _, rfl, _, rfl, _, _, rfl, rfl, .inl ⟨by decide, by decide⟩, _, _, rfl, rfl, _, _, rfl, rfl, pz, _, _, _, rfl, rfl, szl (by rw [abc_len]; decide), abc_at hj0 hj1, szl' (by simp; omega), rfl, ⟨_, rfl⟩, by omega, ?_⟩
    rw [List.range_succ, List.map_append, List.map_append]
    unfold sgC
    rw [Int.zero_add]
    rfl
  rintro ys τ _ ⟨rfl, _, _, rfl⟩ p2 hp2
  have e : (((List.range (k : Int).toNat).map (sgC m)).map fun c => V.str ⟨#[c]⟩) = (((List.range (k : Int).toNat).map (sgC m)).map fun c => (⟨#[c]⟩ : Str)).map V.str := by rw [List.map_map, List.map_map, List.map_map]; rfl
  refine ⟨"", p2, ((List.range (k : Int).toNat).map (sgC m)).map fun c => (⟨#[c]⟩ : Str), rfl, rfl, SqL.of (by rw [← e]; exact upd_same), ?_, ?_⟩
  · have h1 : ∀ cs : List Nat, ((cs.map fun c => (⟨#[c]⟩ : Str)).map (·.length)).sum = cs.length := fun cs => by
      induction cs with
      | nil => rfl
      | cons c cs ih => rw [List.map_cons, List.map_cons, List.sum_cons, ih, List.length_cons, one_len]; omega
    rw [h1]
    have e0 : ("" : Str).length = 0 := by decide +kernel
    simp [e0]
    omega
  · rw [join_cat]
    exact q _ _ (sg_ok m (by omega) (by omega)) (g1.trans (same_new hp2 _))

theorem sc_law_rest : FnScope ["_law_script", "_law_k", "_law_salt", "_law_cell", "_law_big"] ["_law_script", "_law_k", "_law_salt"] (defScope s_law_rest) := ⟨rfl, rfl, rfl, by decide +kernel, rfl, by decide +kernel, by decide +kernel⟩
theorem ok_law_rest (B : Bi mg) {c_ScribeError c_NoWay c_NoRoom c_NotPlain c_OtherSigns c_TooMany c_TwoWays c_NeverPlain c_NoText : Addr} (XB : Xb K mg c_ScribeError c_NoWay c_NoRoom c_NotPlain c_OtherSigns c_TooMany c_TwoWays c_NeverPlain c_NoText) (C_law_cell_at : Cal P w K mg base "_law_cell_at" ["_law_script", "_law_k"] 1 (spCell K)) (C_law_mixed : Cal P w K mg base "_law_mixed" ["_law_cell", "_law_k"] 1 (spMixed)) {f : Addr} {fd : FuncData} (F : Fun K "_law_rest" "_law_rest" s_law_rest f fd) : FnOk P w K mg base CX0 2 f fd ["_law_script", "_law_k", "_law_salt"] (spRest K) := by
  refine F.ok sc_law_rest (fun vs H Q E h => ?_) (fun cdv A outer s H vs Q E hr h => ?_)
  · obtain ⟨a, ns, k, salt, rfl, _⟩ := h; rfl
  obtain ⟨a, ns, k, salt, rfl, hS, hk, s0, s1, q⟩ := h
  refine ⟨_, (pss_cons (ps_set (i := 3) sc_law_rest.nd rfl (Or.inl rfl) (pe_fn C_law_cell_at hr (by decide : 1 ≤ 1) (by rfl) (pa_cons (pv 0) (pa_cons (pv 1) pa_nil))))
      (pss_cons (ps_if (pt_cmpR op_eq (pe_op op_mod (pe_fn C_law_cell_at hr (by decide : 1 ≤ 1) (by rfl) (pa_cons (pv 0) (pa_cons pe_int pa_nil))) pe_int) pe_int (nomark _)) (pss_one (ps_ret (pe_op op_shr (pv 3) (pe_op op_mul (pe_op op_fdiv (pv 2) pe_int) pe_int)))) pss_nil)
      (pss_cons (ps_set (i := 4) sc_law_rest.nd rfl (Or.inl rfl) (pe_op op_add (pe_fn C_law_mixed hr (by decide : 1 ≤ 1) (by rfl) (pa_cons (pv 3) (pa_cons (pe_op op_add (pv 1) (pv 2)) pa_nil))) (pe_op op_mul (pe_fn C_law_mixed hr (by decide : 1 ≤ 1) (by rfl) (pa_cons (pv 3) (pa_cons (pe_op op_add (pe_op op_add (pv 1) (pv 2)) pe_int) pa_nil))) pe_int)))
      (pss_one (ps_ret (pe_op op_add (pv 4) (pe_op op_mul (pe_op op_mul (pe_fn C_law_mixed hr (by decide : 1 ≤ 1) (by rfl) (pa_cons (pv 3) (pa_cons (pe_op op_add (pe_op op_add (pv 1) (pv 2)) pe_int) pa_nil))) pe_int) pe_int))))))), ?_⟩
  refine ⟨_, rfl, _, rfl, a, ns, k, rfl, hS, hk, ?_⟩
  generalize cellAt ns k = c
  refine ⟨_, rfl, a, ns, 0, rfl, hS, (by decide), _, _, rfl, rfl, pz, rfl, _, rfl, ?_⟩
  refine iteDd (fun _ => ?_) (fun _ => ?_)
  · exact ⟨_, rfl, _, rfl, _, _, rfl, rfl, ⟨by decide, by decide⟩, _, _, rfl, rfl, .inr ⟨by decide, by decide⟩, _, _, rfl, rfl, (by show 0 ≤ salt / 2000 * 300; omega), q _⟩
  refine ⟨_, rfl, _, rfl, _, rfl, _, _, rfl, rfl, _, _, rfl, fun n1 _ _ => ?_⟩
  refine ⟨_, rfl, _, rfl, _, rfl, _, _, rfl, rfl, _, _, rfl, rfl, _, _, rfl, fun n2 _ _ => ⟨_, _, rfl, rfl, .inr ⟨by decide, by decide⟩, _, _, rfl, rfl, ?_⟩⟩
  exact ⟨_, rfl, _, rfl, _, rfl, _, rfl, _, _, rfl, rfl, _, _, rfl, rfl, _, _, rfl, fun n3 _ _ => ⟨_, _, rfl, rfl, .inr ⟨by decide, by decide⟩, _, _, rfl, rfl, .inr ⟨by decide, by decide⟩, _, _, rfl, rfl, q _⟩⟩

theorem sc_law_choices : FnScope ["_law_script", "_law_salt", "_law_most", "_law_rest_here", "_law_signs_here", "_law_rooms", "_law_lists", "_law_k", "_law_way", "_law_room", "_law_told", "_law_to"] ["_law_script", "_law_salt", "_law_most"] (defScope s_law_choices) := ⟨rfl, rfl, rfl, by decide +kernel, rfl, by decide +kernel, by decide +kernel⟩
theorem ok_law_choices (B : Bi mg) {c_ScribeError c_NoWay c_NoRoom c_NotPlain c_OtherSigns c_TooMany c_TwoWays c_NeverPlain c_NoText : Addr} (XB : Xb K mg c_ScribeError c_NoWay c_NoRoom c_NotPlain c_OtherSigns c_TooMany c_TwoWays c_NeverPlain c_NoText) (C_law_signs : Cal P w K mg base "_law_signs" ["_law_number_here"] 1 (spSigns2)) (C_law_rest : Cal P w K mg base "_law_rest" ["_law_script", "_law_k", "_law_salt"] 2 (spRest K)) (C_law_word : Cal P w K mg base "_law_word" ["_law_rest_here"] 1 (spWord)) {f : Addr} {fd : FuncData} (F : Fun K "_law_choices" "_law_choices" s_law_choices f fd) : FnOk P w K mg base CX0 3 f fd ["_law_script", "_law_salt", "_law_most"] (spDraw86 K) := by
  refine F.ok sc_law_choices (fun vs H Q E h => ?_) (fun cdv A outer s H vs Q E hr h => ?_)
  · obtain ⟨a, ns, salt, most, rfl, _⟩ := h; rfl
  obtain ⟨a, ns, salt, most, rfl, hS, h63, s0, s1, m0, m1, q⟩ := h
  refine ⟨_, (pss_cons (ps_set (i := 3) sc_law_choices.nd rfl (Or.inl rfl) (pe_abs (pe_op op_fdiv (pe_fn C_law_rest hr (by decide : 2 ≤ 2) (by rfl) (pa_cons (pv 0) (pa_cons pe_int (pa_cons (pv 1) pa_nil)))) pe_int)))
      (pss_cons (ps_set (i := 4) sc_law_choices.nd rfl (Or.inl rfl) (pe_fn C_law_signs hr (by decide : 1 ≤ 2) (by rfl) (pa_cons (pv 3) pa_nil)))
      (pss_cons (ps_set (i := 3) sc_law_choices.nd rfl (Or.inl rfl) (pe_abs (pe_op op_fdiv (pv 3) pe_int)))
      (pss_cons (ps_set (i := 5) sc_law_choices.nd rfl (Or.inl rfl) (pe_abs (pe_ix (kIx (K := K) rPick ix_pick) (pe_lst (pa_cons (pe_op op_mod (pe_op op_fdiv (pv 3) pe_int) (pe_op op_add (pv 2) pe_int)) (pa_cons (pe_op op_mod (pe_op op_fdiv (pv 3) pe_int) pe_int) (pa_cons pe_int pa_nil)))) (pe_op op_mod (pv 3) pe_int) (by intro _ _; rfl))))
      (pss_cons (ps_set (i := 6) sc_law_choices.nd rfl (Or.inl rfl) (pe_lst (pa_cons (pe_lst pa_nil) (pa_cons (pe_lst pa_nil) (pa_cons (pe_lst pa_nil) pa_nil)))))
      (pss_cons (ps_for PassesOwn.never (by rfl) (pi_range2 (by rfl) B.range (pa_cons pe_int (pa_cons (pe_callB (call_min2 (by rfl)) (by rfl) B.min bt_min (pa_cons pe_int (pa_cons (pe_callB (kLen (K := K)) (by rfl) B.len bt_len (pa_cons (pv 0) pa_nil)) pa_nil))) pa_nil))) (pg_name (i := 7) sc_law_choices.nd rfl (Or.inl rfl)) (pss_cons (ps_set (i := 3) sc_law_choices.nd rfl (Or.inl rfl) (pe_abs (pe_fn C_law_rest hr (by decide : 2 ≤ 2) (by rfl) (pa_cons (pv 0) (pa_cons (pv 7) (pa_cons (pv 1) pa_nil))))))
      (pss_cons (ps_set (i := 8) sc_law_choices.nd rfl (Or.inl rfl) (pe_ix (kIx (K := K) rPick ix_pick) (pe_lst (pa_cons pe_int (pa_cons pe_int (pa_cons pe_int (pa_cons pe_int (pa_cons pe_int (pa_cons pe_int (pa_cons pe_int (pa_cons pe_int pa_nil))))))))) (pe_op op_mod (pv 3) pe_int) (by intro _ _; rfl)))
      (pss_cons (ps_set (i := 3) sc_law_choices.nd rfl (Or.inl rfl) (pe_abs (pe_op op_fdiv (pv 3) pe_int)))
      (pss_one (ps_if (pt_cmpR op_gt (pv 5) pe_int (nomark _)) (pss_cons (ps_set (i := 9) sc_law_choices.nd rfl (Or.inl rfl) (pe_abs (pe_op op_mod (pv 3) (pv 5))))
      (pss_cons (ps_set (i := 3) sc_law_choices.nd rfl (Or.inl rfl) (pe_abs (pe_op op_fdiv (pv 3) (pv 5))))
      (pss_cons (ps_set (i := 10) sc_law_choices.nd rfl (Or.inl rfl) (pe_tup (pa_cons (pv 9) (pa_cons (pe_fn C_law_word hr (by decide : 1 ≤ 2) (by rfl) (pa_cons (pv 3) pa_nil)) pa_nil))))
      (pss_mid (ps_if (pt_cmpR op_eq (pv 8) pe_int (nomark _)) (pss_cons (ps_set (i := 11) sc_law_choices.nd rfl (Or.inl rfl) (pe_abs (pe_op op_mod (pe_op op_fdiv (pv 3) (pe_callB call_len_str (by rfl) B.len bt_len (pa_cons (pv 4) pa_nil))) (pv 5))))
      (pss_one (ps_set (i := 10) sc_law_choices.nd rfl (Or.inl rfl) (pe_tup (pa_cons (pv 9) (pa_cons (pe_ix ix_str (pv 4) (pe_op op_mod (pv 3) (pe_callB call_len_str (by rfl) B.len bt_len (pa_cons (pv 4) pa_nil))) (by intro _ _; rfl)) (pa_cons (pe_fn C_law_word hr (by decide : 1 ≤ 2) (by rfl) (pa_cons (pe_op op_fdiv (pe_op op_fdiv (pv 3) (pe_callB call_len_str (by rfl) B.len bt_len (pa_cons (pv 4) pa_nil))) (pv 5)) pa_nil)) (pa_cons (pv 11) pa_nil)))))))) pss_nil)
      (pss_one (ps_if (pt_cmpR (kOp (K := K) (rInD · true) (op_notInD hr.units)) (pv 10) (pe_ix (kIx (K := K) rIxL ix_list) (pv 6) (pv 8) (by intro _ _; rfl)) rfl) (pss_one (ps_expr (kPE (K := K) (fun k => tBM k _ _ _ _) (pe_bm PySem.F.plainAttrs_list PySem.F.slot_list_append PySem.F.type_list_append mt_append (pe_ix (kIx (K := K) rIxL ix_list) (pv 6) (pv 8) (by intro _ _; rfl)) (pa_cons (pv 10) pa_nil))))) pss_nil)))))) pss_nil))))))
      (pss_one (ps_ret (pe_tup (pa_cons (pv 4) (pa_cons (pv 5) (pa_cons (pe_ix (kIx (K := K) rIxL ix_list) (pv 6) pe_int (by intro _ _; rfl)) (pa_cons (pe_ix (kIx (K := K) rIxL ix_list) (pv 6) pe_int (by intro _ _; rfl)) (pa_cons (pe_ix (kIx (K := K) rIxL ix_list) (pv 6) pe_int (by intro _ _; rfl)) pa_nil)))))))))))))), ?_⟩
  refine ⟨fun v H' => H = H' ∧ ∃ n : Int, v = .int n, ⟨_, rfl, _, rfl, a, ns, 0, salt, rfl, hS, by decide, s0, s1, fun n => ⟨_, _, rfl, rfl, ⟨by decide, by decide⟩, rfl, _, rfl⟩⟩, ?_⟩
  rintro _ _ ⟨rfl, n0, rfl⟩
  refine ⟨_, rfl, n0, rfl, fun g H0 hg g0 => ?_⟩
  obtain ⟨hg1, hg2, hg3, hg4⟩ := hg
  refine ⟨fun v H' => H0 = H' ∧ ∃ n : Int, v = .int n, ⟨_, rfl, _, _, rfl, rfl, ⟨by decide, by decide⟩, rfl, _, rfl⟩, ?_⟩
  rintro _ _ ⟨rfl, n9, rfl⟩
  refine ⟨fun v H' => Same H0 H' ∧ isNum 0 200 v, ⟨_, rfl, _, _, rfl, rfl, ⟨by decide, by decide⟩, _, rfl, _, _, rfl, rfl, _, _, rfl, rfl, (by show 0 < most + 1; omega), _, rfl, _, _, rfl, rfl, ⟨by decide, by decide⟩, _, _, rfl, rfl, pz, szl (by simp), fun p hp => ⟨_, rfl, _, _, rfl, rfl, pz, p, _, _, rfl, rfl, SqL.of upd_same, by omega, (by show n9 % 3 < 3; omega), isNum 0 200, ?_, ?_⟩⟩, ?_⟩
  · intro v hv
    simp only [List.mem_cons, List.not_mem_nil, or_false] at hv
    rcases hv with rfl | rfl | rfl
    · refine ⟨_, rfl, Int.emod_nonneg _ (by omega), ?_⟩
      have := Int.emod_lt_of_pos (n9 / 3) (show 0 < most + 1 by omega)
      omega
    · exact ⟨_, rfl, by omega, by omega⟩
    · exact ⟨_, rfl, by decide, by decide⟩
  · intro _ hv
    exact ⟨same_new hp _, hv⟩
  rintro _ H1 ⟨g2, r, rfl, hr0, hr1⟩
  have g1 := g0.trans g2
  refine ⟨szl (by simp), fun pb hpb => ?_⟩
  refine ⟨szl (by simp), fun ps hps => ?_⟩
  refine ⟨szl (by simp), fun pe hpe => ?_⟩
  refine ⟨szl (by simp), fun pl hpl => ?_⟩
  have hps' : H1 ps = none := (same_new hpb _).free hps
  have hpe' : upd H1 pb (.lst []) pe = none := (same_new hps _).free hpe
  have hpl' : upd (upd H1 pb (.lst [])) ps (.lst []) pl = none := (same_new hpe _).free hpl
  have hpl'' : upd H1 pb (.lst []) pl = none := (same_new hps _).free hpl'
  have AP : Apart H pb ps pe := ⟨g1.free hpb, g1.free hps', g1.free ((same_new hpb _).free hpe'), ne_of_none upd_same hps, ne_of_none upd_same hpe', ne_of_none upd_same hpe⟩
  have lb : pl ≠ pb := (ne_of_none upd_same hpl'').symm
  have lS : pl ≠ ps := (ne_of_none upd_same hpl').symm
  have le : pl ≠ pe := (ne_of_none upd_same hpl).symm
  have HI0 : HI K H pb ps pe false g r 0 (upd (upd (upd (upd H1 pb (.lst [])) ps (.lst [])) pe (.lst [])) pl (.lst [.ref pb, .ref ps, .ref pe])) :=
    ⟨[], [], [], [], [], [], (((g1.trans (same_new hpb _)).trans (same_new hps _)).trans (same_new hpe _)).trans (same_new hpl _), by rw [upd_ne lb.symm, upd_ne AP.be, upd_ne AP.bs]; exact upd_same, by rw [upd_ne lS.symm, upd_ne AP.se]; exact upd_same, by rw [upd_ne le.symm]; exact upd_same, .nil, .nil, .nil,
      ⟨Nat.zero_le _, Nat.zero_le _, Nat.zero_le _, by simp, by simp, by simp, by simp, by simp, by simp, fun _ => Nat.zero_le _, fun _ => by simp, fun _ => by simp⟩⟩
  have el0 := upd_same (H := upd (upd (upd H1 pb (.lst [])) ps (.lst [])) pe (.lst [])) (a := pl) (o := .lst [.ref pb, .ref ps, .ref pe])
  generalize upd (upd (upd (upd H1 pb (.lst [])) ps (.lst [])) pe (.lst [])) pl (.lst [.ref pb, .ref ps, .ref pe]) = H3 at HI0 el0 ⊢
  have hS3 : SqL K H3 a (ns.map V.int) := by obtain ⟨_, _, _, _, _, _, z, _⟩ := HI0; exact z.seq hS
  refine ⟨_, rfl, a, _, rfl, .inl hS3, _, _, rfl, _, _, rfl, ⟨by decide, by decide, ?_, ?_⟩, ?_⟩
  · rw [List.length_map]
    show -(2 ^ 62 : Int) ≤ if (ns.length : Int) < 16 then (ns.length : Int) else 16
    split <;> omega
  · rw [List.length_map]
    show (if (ns.length : Int) < 16 then (ns.length : Int) else 16) < 2 ^ 62
    split <;> omega
  rw [List.length_map]
  have hturns : ((if (ns.length : Int) < 16 then (ns.length : Int) else 16) - 1).toNat ≤ 15 := by split <;> omega
  refine for_range (fun i σ H' => HI K H pb ps pe false g r i H' ∧ H' pl = some (.lst [.ref pb, .ref ps, .ref pe]) ∧ ∃ x3 x7 x8 x9 x10 x11, σ = [some (.ref a), some (.int salt), some (.int most), x3, some (.str g), some (.int r), some (.ref pl), x7, x8, x9, x10, x11]) ⟨HI0, el0, _, _, _, _, _, _, rfl⟩ ?_ ?_
  · rintro i σ H4 hi ⟨hI, el, x3, x7, x8, x9, x10, x11, rfl⟩
    have hi62 : i < 15 := Nat.lt_of_lt_of_le hi hturns
    have hS4 : SqL K H4 a (ns.map V.int) := by obtain ⟨_, _, _, _, _, _, z, _⟩ := hI; exact z.seq hS
    refine ⟨fun v H' => H4 = H' ∧ ∃ n : Int, v = .int n, ⟨_, rfl, _, rfl, _, rfl, a, ns, _, salt, rfl, hS4, by omega, s0, s1, fun n => ⟨rfl, n, rfl⟩⟩, ?_⟩
    rintro _ _ ⟨rfl, n1, rfl⟩
    refine ⟨szl (by simp), fun p hp => ⟨_, rfl, _, _, rfl, rfl, pz, p, _, _, rfl, rfl, SqL.of upd_same, by omega, (by show n1 % 8 < 8; omega), isNum 0 2, ?_, ?_⟩⟩
    · intro v hv
      simp only [List.mem_cons, List.not_mem_nil, or_false] at hv
      rcases hv with rfl | rfl | rfl | rfl | rfl | rfl | rfl | rfl <;> exact ⟨_, rfl, by decide, by decide⟩
    rintro _ ⟨way, rfl, hw0, hw2⟩
    have gp := same_new hp (.lst [V.int 0, V.int 1, V.int 1, V.int 1, V.int 1, V.int 1, V.int 2, V.int 2])
    have hI := hI.mono gp (Nat.le_refl _)
    have el := gp _ _ el
    generalize upd H4 p (.lst [V.int 0, V.int 1, V.int 1, V.int 1, V.int 1, V.int 1, V.int 2, V.int 2]) = H5 at hI el ⊢
    refine ⟨fun v H' => H5 = H' ∧ ∃ n : Int, v = .int n, ⟨_, rfl, _, _, rfl, rfl, ⟨by decide, by decide⟩, rfl, _, rfl⟩, ?_⟩
    rintro _ _ ⟨rfl, n2, rfl⟩
    refine ⟨_, rfl, _, _, rfl, rfl, _, rfl, iteDd (fun hr => ?_) (fun _ => ⟨hI.mono (Same.refl _) (Nat.le_succ _), el, _, _, _, _, _, _, rfl⟩)⟩
    have hrr : 0 < r ∧ r < 1073741824 := ⟨hr, by omega⟩
    refine ⟨fun v H' => H5 = H' ∧ ∃ n : Int, v = .int n ∧ 0 ≤ n ∧ n < r, ⟨_, rfl, _, rfl, _, _, rfl, rfl, hr, rfl, _, rfl, Int.emod_nonneg _ (by omega), Int.emod_lt_of_pos _ hr⟩, ?_⟩
    rintro _ _ ⟨rfl, ro, rfl, ro0, ro1⟩
    refine ⟨fun v H' => H5 = H' ∧ ∃ n : Int, v = .int n, ⟨_, rfl, _, rfl, _, _, rfl, rfl, hrr, rfl, _, rfl⟩, ?_⟩
    rintro _ _ ⟨rfl, n3, rfl⟩
    refine ⟨_, rfl, _, rfl, n3, rfl, fun wd H6 hwd g6 => ⟨(by show 2 ≤ sizeLine; decide), fun t ht => ?_⟩⟩
    have gt := g6.trans (same_new ht (.tup [V.int ro, V.str wd]))
    have et := upd_same (H := H6) (a := t) (o := .tup [V.int ro, V.str wd])
    have hI := hI.mono gt (Nat.le_refl _)
    have el := gt _ _ el
    dsimp only at ht ⊢
    generalize upd H6 t (.tup [V.int ro, V.str wd]) = H7 at hI el et ⊢
    have hgl : (0 : Int) < g.length ∧ (g.length : Int) < 1073741824 := by omega
    refine ⟨fun σ' H' => ∃ t' x11, σ' = [some (.ref a), some (.int salt), some (.int most), some (.int n3), some (.str g), some (.int r), some (.ref pl), some (.int (1 + (i : Int))), some (.int way), some (.int ro), some (.ref t'), x11] ∧ HI K H pb ps pe false g r i H' ∧ H' pl = some (.lst [.ref pb, .ref ps, .ref pe]) ∧
        ((¬ way = 1 ∧ ∃ wd, Wd wd ∧ SqT K H' t' [.int ro, .str wd]) ∨ (way = 1 ∧ ∃ sg wd to, sg ∈ cl g ∧ Wd wd ∧ 0 ≤ to ∧ to < r ∧ SqT K H' t' [.int ro, .str ⟨#[sg]⟩, .str wd, .int to])), ?_, ?_⟩
    · refine ⟨_, rfl, rfl, _, rfl, iteDd (fun c => ?_) (fun c => ⟨t, _, rfl, hI, el, .inl ⟨fun z => c (by rw [z]), wd, hwd, SqT.of et⟩⟩)⟩
      have c : way = 1 := by injection c
      refine ⟨fun v H' => H7 = H' ∧ ∃ n : Int, v = .int n ∧ 0 ≤ n ∧ n < r, ⟨_, rfl, _, rfl, g, rfl, szl (by omega), _, _, rfl, rfl, hgl, _, rfl, _, _, rfl, rfl, hr, rfl, _, rfl, Int.emod_nonneg _ (by omega), Int.emod_lt_of_pos _ hr⟩, ?_⟩
      rintro _ _ ⟨rfl, to, rfl, to0, to1⟩
      obtain ⟨sg, hc, hm⟩ := at_mem (xs := cl g) (i := n3 % (g.length : Int)) (Int.emod_nonneg _ (by omega)) (by rw [cl_length]; exact Int.emod_lt_of_pos _ hgl.1)
      refine ⟨_, rfl, _, rfl, _, rfl, _, rfl, g, rfl, szl (by omega), _, _, rfl, rfl, hgl.1, g, _, sg, rfl, rfl, szl (by omega), hc, _, rfl, _, rfl, g, rfl, szl (by omega), _, _, rfl, rfl, hgl, _, rfl, _, _, rfl, rfl, hrr, _, rfl, fun wd2 H8 hwd2 g8 => ⟨_, rfl, (by show 4 ≤ sizeLine; decide), fun t2 ht2 => ?_⟩⟩
      have gt2 := g8.trans (same_new ht2 (.tup [V.int ro, V.str ⟨#[sg]⟩, V.str wd2, V.int to]))
      exact ⟨t2, _, rfl, hI.mono gt2 (Nat.le_refl _), gt2 _ _ el, .inr ⟨c, sg, wd2, to, hm, hwd2, to0, to1, SqT.of upd_same⟩⟩
    rintro _ H8 ⟨t', x11', rfl, hI, el, hcase⟩
    obtain ⟨B, S, E', xb, xs, xe, i1, i2, i3, i4, i5, i6, i7, i8⟩ := hI
    have stay : HI K H pb ps pe false g r (i + 1) H8 := HI.mono ⟨B, S, E', xb, xs, xe, i1, i2, i3, i4, i5, i6, i7, i8⟩ (Same.refl _) (Nat.le_succ _)
    have hw : way = 0 ∨ way = 1 ∨ way = 2 := by omega
    rcases hw with rfl | rfl | rfl
    · obtain ⟨_, wd, hwd, hT⟩ : ¬ (0 : Int) = 1 ∧ ∃ wd, Wd wd ∧ SqT K H8 t' [.int ro, .str wd] := by
        rcases hcase with z | z
        · exact z
        · exact absurd z.1 (by decide)
      have hat : atI [V.ref pb, V.ref ps, V.ref pe] 0 = some (.ref pb) := rfl
      refine ⟨_, rfl, _, rfl, _, rfl, _, _, _, _, rfl, rfl, SqL.of el, hat, dMk (ro, wd), pb, xb, B.map dMk, MkV.rep ⟨t', rfl, hT⟩, rfl, SqL.of i2, notIn_mk (m := (ro, wd)) i5, Nat.le_trans (deeps_map dMk 1 deep_dMk B) (by decide), _, rfl, iteB (fun z => ?_) (fun _ => ⟨stay, el, _, _, _, _, _, _, rfl⟩)⟩
      have z' : (!((B.map dMk).any fun e => eqD e (dMk (ro, wd)))) = true := z
      rw [any_mem dMk eqD_dMk] at z'
      have hlx : xb.length < sizeLine := by have := i5.length; have : B.length ≤ i := i8.lb; exact szl' (by omega)
      refine ⟨_, rfl, _, rfl, _, _, _, _, rfl, rfl, SqL.of el, hat, .inl ⟨rfl, _, SqL.of i2⟩, _, rfl, pb, xb, .ref t', rfl, rfl, i2, hlx, ?_, (upd_ne lb).trans el, _, _, _, _, _, _, rfl⟩
      exact HI.addBegin AP i1 i2 i3 i4 i5 i6 i7 (i8.begin ro0 ro1 hwd (by simpa using z') (fun h => nomatch h)) ⟨t', rfl, hT⟩
    · obtain ⟨_, sg, wd, to, hsg, hwd, to0, to1, hT⟩ : (1 : Int) = 1 ∧ ∃ sg wd to, sg ∈ cl g ∧ Wd wd ∧ 0 ≤ to ∧ to < r ∧ SqT K H8 t' [.int ro, .str ⟨#[sg]⟩, .str wd, .int to] := by
        rcases hcase with z | z
        · exact absurd rfl z.1
        · exact z
      have hat : atI [V.ref pb, V.ref ps, V.ref pe] 1 = some (.ref ps) := rfl
      refine ⟨_, rfl, _, rfl, _, rfl, _, _, _, _, rfl, rfl, SqL.of el, hat, dSt (ro, ⟨#[sg]⟩, wd, to), ps, xs, S.map dSt, StV.rep ⟨t', rfl, hT⟩, rfl, SqL.of i3, reps_st i6, Nat.le_trans (deeps_map dSt 1 deep_dSt S) (by decide), _, rfl, iteB (fun z => ?_) (fun _ => ⟨stay, el, _, _, _, _, _, _, rfl⟩)⟩
      have z' : (!((S.map dSt).any fun e => eqD e (dSt (ro, ⟨#[sg]⟩, wd, to)))) = true := z
      rw [any_mem dSt eqD_dSt] at z'
      have hlx : xs.length < sizeLine := by have := i6.length; have : S.length ≤ i := i8.ls; exact szl' (by omega)
      refine ⟨_, rfl, _, rfl, _, _, _, _, rfl, rfl, SqL.of el, hat, .inl ⟨rfl, _, SqL.of i3⟩, _, rfl, ps, xs, .ref t', rfl, rfl, i3, hlx, ?_, (upd_ne lS).trans el, _, _, _, _, _, _, rfl⟩
      exact HI.addStep AP i1 i2 i3 i4 i5 i6 i7 (i8.step ro0 ro1 ⟨sg, hsg, rfl⟩ hwd to0 to1 (by simpa using z') (fun h => nomatch h)) ⟨t', rfl, hT⟩
    · obtain ⟨_, wd, hwd, hT⟩ : ¬ (2 : Int) = 1 ∧ ∃ wd, Wd wd ∧ SqT K H8 t' [.int ro, .str wd] := by
        rcases hcase with z | z
        · exact z
        · exact absurd z.1 (by decide)
      have hat : atI [V.ref pb, V.ref ps, V.ref pe] 2 = some (.ref pe) := rfl
      refine ⟨_, rfl, _, rfl, _, rfl, _, _, _, _, rfl, rfl, SqL.of el, hat, dMk (ro, wd), pe, xe, E'.map dMk, MkV.rep ⟨t', rfl, hT⟩, rfl, SqL.of i4, notIn_mk (m := (ro, wd)) i7, Nat.le_trans (deeps_map dMk 1 deep_dMk E') (by decide), _, rfl, iteB (fun z => ?_) (fun _ => ⟨stay, el, _, _, _, _, _, _, rfl⟩)⟩
      have z' : (!((E'.map dMk).any fun e => eqD e (dMk (ro, wd)))) = true := z
      rw [any_mem dMk eqD_dMk] at z'
      have hlx : xe.length < sizeLine := by have := i7.length; have : E'.length ≤ i := i8.le; exact szl' (by omega)
      refine ⟨_, rfl, _, rfl, _, _, _, _, rfl, rfl, SqL.of el, hat, .inl ⟨rfl, _, SqL.of i4⟩, _, rfl, pe, xe, .ref t', rfl, rfl, i4, hlx, ?_, (upd_ne le).trans el, _, _, _, _, _, _, rfl⟩
      exact HI.addEnd AP i1 i2 i3 i4 i5 i6 i7 (i8.end_ ro0 ro1 hwd (by simpa using z') (fun h => nomatch h)) ⟨t', rfl, hT⟩
  rintro σ H4 ⟨hI, el, x3, x7, x8, x9, x10, x11, rfl⟩
  have hI : HI K H pb ps pe false g r 15 H4 := hI.mono (Same.refl _) (by omega)
  obtain ⟨B, S, E', xb, xs, xe, i1, i2, i3, i4, i5, i6, i7, i8⟩ := hI
  refine ⟨_, rfl, _, rfl, _, rfl, _, _, _, _, rfl, rfl, SqL.of el, rfl, _, rfl, _, _, _, _, rfl, rfl, SqL.of el, rfl, _, rfl, _, _, _, _, rfl, rfl, SqL.of el, rfl, (by show 5 ≤ sizeLine; decide), fun v hv => ?_⟩
  have gv := same_new hv (.tup [V.str g, V.int r, V.ref pb, V.ref ps, V.ref pe])
  exact q _ _ ⟨g, r, B, S, E'⟩ pb ps pe (i1.trans gv) ⟨v, xb, xs, xe, rfl, SqT.of upd_same, SqL.of (gv _ _ i2), SqL.of (gv _ _ i3), SqL.of (gv _ _ i4), paired_mono (fun _ _ => MkV.mono (Same.grow gv)) i5, paired_mono (fun _ _ => StV.mono (Same.grow gv)) i6, paired_mono (fun _ _ => MkV.mono (Same.grow gv)) i7⟩
    ⟨⟨i8.lb, i8.ls, i8.le, i8.mb, i8.ms, i8.me, i8.nb, i8.ns, i8.ne⟩, hr0, hr1, hg1, (by show g.length ≤ 40; omega), hg3, hg4⟩

theorem sc_law_is_scribe : FnScope ["_law_found", "_law_k", "_law_told", "_law_one", "_law_kind"] ["_law_found"] (defScope s_law_is_scribe) := ⟨rfl, rfl, rfl, by decide +kernel, rfl, by decide +kernel, by decide +kernel⟩
theorem ok_law_is_scribe (B : Bi mg) {c_ScribeError c_NoWay c_NoRoom c_NotPlain c_OtherSigns c_TooMany c_TwoWays c_NeverPlain c_NoText : Addr} (XB : Xb K mg c_ScribeError c_NoWay c_NoRoom c_NotPlain c_OtherSigns c_TooMany c_TwoWays c_NeverPlain c_NoText) (C_law_whole : Cal P w K mg base "_law_whole" ["_law_found"] 1 (spWholeI K)) {f : Addr} {fd : FuncData} (F : Fun K "_law_is_scribe" "_law_is_scribe" s_law_is_scribe f fd) : FnOk P w K mg base CX0 2 f fd ["_law_found"] (spIsScr K) := by
  refine F.ok sc_law_is_scribe (fun vs H Q E h => ?_) (fun cdv A outer s H vs Q E hr h => ?_)
  · obtain ⟨v, s, pb, ps, pe, rfl, _⟩ := h; rfl
  obtain ⟨v, s, pb, ps, pe, rfl, hV, q⟩ := h
  refine ⟨_, (pss_cons (ps_if (PW.pt (pw_or (pt_not (pt_val (pe_callB (kCall (K := K) rIsD call_isinstD) (by rfl) B.isinstance bt_isinstance (pa_cons (pv 0) (pa_cons (pe_ty (by rfl) B.tuple bt_tuple) pa_nil))))) (pw_or (pt_cmpR op_ne (pe_callB (kLen (K := K)) (by rfl) B.len bt_len (pa_cons (pv 0) pa_nil)) pe_int (nomark _)) (pw_or (pt_not (pt_val (pe_callB (kCall (K := K) rIs call_isinst) (by rfl) B.isinstance bt_isinstance (pa_cons (pe_ix (kIx (K := K) rIxT ix_tup) (pv 0) pe_int (by intro _ _; rfl)) (pa_cons (pe_ty (by rfl) B.str bt_str) pa_nil))))) (pw_or1 (pt_not (pt_val (pe_fn C_law_whole hr (by decide : 1 ≤ 1) (by rfl) (pa_cons (pe_ix (kIx (K := K) rIxT ix_tup) (pv 0) pe_int (by intro _ _; rfl)) pa_nil))))))))) (pss_one (ps_ret pe_bl)) pss_nil)
      (pss_cons (ps_for PassesOwn.never (by rfl) (pi_range2 (by rfl) B.range (pa_cons pe_int (pa_cons pe_int pa_nil))) (pg_name (i := 1) sc_law_is_scribe.nd rfl (Or.inl rfl)) (pss_cons (ps_if (pt_not (pt_val (pe_callB (kCall (K := K) rIsD call_isinstD) (by rfl) B.isinstance bt_isinstance (pa_cons (pe_ix (kIx (K := K) rIxT ix_tup) (pv 0) (pv 1) (by intro _ _; rfl)) (pa_cons (pe_ty (by rfl) B.list bt_list) pa_nil))))) (pss_one (ps_ret pe_bl)) pss_nil)
      (pss_one (ps_for PassesOwn.never (by rfl) (kPI (K := K) (fun k => iList k _) (pi_list (pe_ix (kIx (K := K) rIxT ix_tup) (pv 0) (pv 1) (by intro _ _; rfl)))) (pg_name (i := 2) sc_law_is_scribe.nd rfl (Or.inl rfl)) (pss_cons (ps_if (PW.pt (pw_or (pt_not (pt_val (pe_callB (kCall (K := K) rIsD call_isinstD) (by rfl) B.isinstance bt_isinstance (pa_cons (pv 2) (pa_cons (pe_ty (by rfl) B.tuple bt_tuple) pa_nil))))) (pw_or1 (pt_cmpR op_ne (pe_callB (kLen (K := K)) (by rfl) B.len bt_len (pa_cons (pv 2) pa_nil)) (pe_ix (kIx (K := K) rIxL ix_list) (pe_lst (pa_cons pe_int (pa_cons pe_int (pa_cons pe_int pa_nil)))) (pe_op op_sub (pv 1) pe_int) (by intro _ _; rfl)) (nomark _))))) (pss_one (ps_ret pe_bl)) pss_nil)
      (pss_one (ps_for PassesOwn.never (by rfl) (kPI (K := K) (fun k => iZip k _) (pi_zip (by rfl) B.zip (pa_cons (pv 2) (pa_cons (pe_ix (kIx (K := K) rIxL ix_list) (pe_lst (pa_cons (pe_lst (pa_cons pe_int (pa_cons pe_int pa_nil))) (pa_cons (pe_lst (pa_cons pe_int (pa_cons pe_int (pa_cons pe_int (pa_cons pe_int pa_nil))))) (pa_cons (pe_lst (pa_cons pe_int (pa_cons pe_int pa_nil))) pa_nil)))) (pe_op op_sub (pv 1) pe_int) (by intro _ _; rfl)) pa_nil)))) (kPG (K := K) (fun k => gTup k 2 _) (pg_tup (n := 2) (by rfl) (pgs_cons (pg_name (i := 3) sc_law_is_scribe.nd rfl (Or.inl rfl)) (pgs_cons (pg_name (i := 4) sc_law_is_scribe.nd rfl (Or.inl rfl)) pgs_nil)))) (pss_one (ps_if (PW.pt (pw_or (PW.pt (pw_and (pt_cmpR op_eq (pv 4) pe_int (nomark _)) (pw_and1 (pt_not (pt_val (pe_fn C_law_whole hr (by decide : 1 ≤ 1) (by rfl) (pa_cons (pv 3) pa_nil))))))) (pw_or1 (PW.pt (pw_and (pt_cmpR op_eq (pv 4) pe_int (nomark _)) (pw_and1 (pt_not (pt_val (pe_callB (kCall (K := K) rIs call_isinst) (by rfl) B.isinstance bt_isinstance (pa_cons (pv 3) (pa_cons (pe_ty (by rfl) B.str bt_str) pa_nil))))))))))) (pss_one (ps_ret pe_bl)) pss_nil)))))))))
      (pss_one (ps_ret pe_bl)))), ?_⟩
  obtain ⟨a, xb, xs, xe, ev, h1, h2, h3, h4, h5, h6, h7⟩ := id hV
  subst ev
  refine ⟨_, rfl, _, dScr s, "tuple", rfl, hV.rep, .inl rfl, _, rfl, iteF ?_⟩
  refine ⟨_, rfl, a, _, rfl, .inr h1, rfl, _, rfl, iteNd (fun c => absurd rfl c) (fun _ => ?_)⟩
  refine ⟨_, rfl, _, _, _, _, rfl, rfl, h1, rfl, _, "str", _, _, rfl, TyOf.str _, is_str, _, rfl, iteF ?_⟩
  refine ⟨_, rfl, _, _, _, _, rfl, rfl, h1, rfl, s.rooms, rfl, _, rfl, iteF ?_⟩
  refine ⟨_, _, rfl, ⟨by decide, by decide, by decide, by decide⟩, ?_⟩
  refine for_range (fun i σ H' => Same H H' ∧ ∃ x1 x2 x3 x4, σ = [some (.ref a), x1, x2, x3, x4]) ⟨Same.refl _, _, _, _, _, rfl⟩ ?_ ?_
  · rintro i σ H1 hi ⟨g1, x1, x2, x3, x4, rfl⟩
    have hi3 : i < 3 := hi
    obtain ⟨p, cs, hat, hn2, hrow, hz⟩ : ∃ p cs, atI [V.str s.signs, V.int s.rooms, V.ref pb, V.ref ps, V.ref pe] (2 + (i : Int)) = some (.ref p) ∧ atI [V.int 2, V.int 4, V.int 2] (2 + (i : Int) - 2) = some (.int ((List.length cs : Nat) : Int)) ∧ RowOk K H1 p cs ∧
        ∀ (p1 p2 p3 : Addr) (Hx : Hp), Hx p1 = some (.lst [V.int 0, V.int 1]) → Hx p2 = some (.lst [V.int 0, V.int 1, V.int 1, V.int 0]) → Hx p3 = some (.lst [V.int 0, V.int 1]) → ∃ pj, atI [V.ref p1, V.ref p2, V.ref p3] (2 + (i : Int) - 2) = some (.ref pj) ∧ Hx pj = some (.lst (cs.map V.int)) := by
      have hc : i = 0 ∨ i = 1 ∨ i = 2 := by omega
      rcases hc with rfl | rfl | rfl
      · exact ⟨pb, [0, 1], rfl, rfl, RowOk.mk (g1.seq h2) (paired_mono (fun _ _ => MkV.mono (Same.grow g1)) h5), fun p1 p2 p3 Hx e1 e2 e3 => ⟨p1, rfl, e1⟩⟩
      · exact ⟨ps, [0, 1, 1, 0], rfl, rfl, RowOk.st (g1.seq h3) (paired_mono (fun _ _ => StV.mono (Same.grow g1)) h6), fun p1 p2 p3 Hx e1 e2 e3 => ⟨p2, rfl, e2⟩⟩
      · exact ⟨pe, [0, 1], rfl, rfl, RowOk.mk (g1.seq h4) (paired_mono (fun _ _ => MkV.mono (Same.grow g1)) h7), fun p1 p2 p3 Hx e1 e2 e3 => ⟨p3, rfl, e3⟩⟩
    obtain ⟨X, D', r1, r2, r3⟩ := hrow
    refine ⟨_, rfl, _, rfl, _, _, _, _, rfl, rfl, Same.seqT g1 h1, hat, _, .lst D', "list", rfl, r2, .inr (.inr (.inr (.inr rfl))), _, rfl, iteF ?_⟩
    refine ⟨_, rfl, _, rfl, _, _, _, _, rfl, rfl, Same.seqT g1 h1, hat, p, rfl, ⟨X, r1⟩, ?_⟩
    refine for_list (xs := X) (fun j σ H' => Same H1 H' ∧ ∃ x2 x3 x4, σ = [some (.ref a), some (.int (2 + (i : Int))), x2, x3, x4]) ⟨Same.refl _, _, _, _, rfl⟩ (fun j σ H' _ z => z.1.seq r1) ?_ ?_
    · rintro j x σ H2 hx ⟨g2, x2, x3, x4, rfl⟩
      obtain ⟨b, vs, d, rfl, hb, hk, hd, ht⟩ := r3 x (List.mem_of_getElem? hx)
      have hb2 := (Same.grow g2).seqT hb
      have hlen : vs.length = cs.length := hk.length
      refine ⟨_, rfl, _, d, "tuple", rfl, Rep.mono g2 d _ hd, .inl rfl, _, rfl, ?_⟩
      rw [ht]
      refine iteF ?_
      refine ⟨_, rfl, b, _, rfl, .inr hb2, szl (by simp), fun p2 hp2 => ⟨_, rfl, _, _, rfl, rfl, _, _, _, _, rfl, rfl, SqL.of upd_same, hn2, rfl, _, rfl, iteNd (fun c => absurd (by rw [hlen]) c) (fun _ => ?_)⟩⟩
      have gp2 := same_new hp2 (.lst [V.int 2, V.int 4, V.int 2])
      have g3 := g2.trans gp2
      have hb3 := (Same.grow gp2).seqT hb2
      generalize upd H2 p2 (.lst [V.int 2, V.int 4, V.int 2]) = H3 at g3 hb3 ⊢
      refine ⟨_, rfl, szl (by simp), fun q1 hq1 => ⟨szl (by simp), fun q2 hq2 => ⟨szl (by simp), fun q3 hq3 => ⟨szl (by simp), fun q4 hq4 => ?_⟩⟩⟩⟩
      have k1 := same_new hq1 (.lst [V.int 0, V.int 1])
      have k2 := same_new hq2 (.lst [V.int 0, V.int 1, V.int 1, V.int 0])
      have k3 := same_new hq3 (.lst [V.int 0, V.int 1])
      have k4 := same_new hq4 (.lst [V.ref q1, V.ref q2, V.ref q3])
      obtain ⟨pj, hatj, epj⟩ := hz q1 q2 q3 _ (k4 _ _ (k3 _ _ (k2 _ _ upd_same))) (k4 _ _ (k3 _ _ upd_same)) (k4 _ _ upd_same)
      have g4 := g3.trans (((k1.trans k2).trans k3).trans k4)
      have hb4 := (Same.grow (((k1.trans k2).trans k3).trans k4)).seqT hb3
      refine ⟨_, rfl, _, _, rfl, rfl, _, _, _, _, rfl, rfl, SqL.of upd_same, hatj, b, pj, rfl, ⟨_, hb4⟩, ⟨_, SqL.of epj⟩, ?_⟩
      generalize upd (upd (upd (upd H3 q1 (.lst [V.int 0, V.int 1])) q2 (.lst [V.int 0, V.int 1, V.int 1, V.int 0])) q3 (.lst [V.int 0, V.int 1])) q4 (.lst [V.ref q1, V.ref q2, V.ref q3]) = H4 at epj g4 hb4 ⊢
      refine for_zip (t := b) (l := pj) (xs := vs) (ys := cs.map V.int) (by rw [List.length_map]; omega) (fun m σ H' => Same H4 H' ∧ ∃ x3 x4, σ = [some (.ref a), some (.int (2 + (i : Int))), some (.ref b), x3, x4]) ⟨Same.refl _, _, _, rfl⟩ (fun m σ H' _ z => ⟨(Same.grow z.1).seqT hb4, SqL.of (z.1 _ _ epj)⟩) ?_ ?_
      · rintro m x y q0 σ H5 hx hy ⟨g5, x3, x4, rfl⟩ hq0
        rw [List.getElem?_map] at hy
        obtain ⟨c, hc, rfl⟩ := Option.map_eq_some_iff.mp hy
        have gq := same_new hq0 (.tup [x, V.int c])
        have eq0 := upd_same (H := H5) (a := q0) (o := .tup [x, V.int c])
        have g6 := g5.trans gq
        generalize upd H5 q0 (.tup [x, V.int c]) = H6 at eq0 g6 ⊢
        refine ⟨q0, _, rfl, SqT.of eq0, rfl, _, _, rfl, _, _, rfl, rfl, ?_⟩
        rcases paired_two hk hx hc with ⟨rfl, n, rfl⟩ | ⟨rfl, w, rfl⟩
        · refine ⟨_, rfl, rfl, _, rfl, iteDT rfl ⟨_, rfl, n, rfl, _, rfl, iteF ?_⟩⟩
          exact ⟨_, rfl, rfl, _, rfl, iteD (fun z => by cases z) ⟨g6, _, _, rfl⟩⟩
        · refine ⟨_, rfl, rfl, _, rfl, iteD (fun z => by cases z) (iteF ?_)⟩
          exact ⟨_, rfl, rfl, _, rfl, iteDT rfl ⟨_, rfl, _, "str", _, _, rfl, TyOf.str _, is_str, _, rfl, g6, _, _, rfl⟩⟩
      · rintro σ H5 ⟨g5, x3, x4, rfl⟩
        exact ⟨g4.trans g5, _, _, _, rfl⟩
    rintro σ H2 ⟨g2, x2, x3, x4, rfl⟩
    exact ⟨g1.trans g2, _, _, _, _, rfl⟩
  rintro σ H1 ⟨g1, x1, x2, x3, x4, rfl⟩
  exact q _ g1

theorem sc_law_shown : FnScope ["_law_scribe", "_law_rows", "_law_room", "_law_word_here", "_law_low", "_law_sign", "_law_high", "_law_told"] ["_law_scribe"] (defScope s_law_shown) := ⟨rfl, rfl, rfl, by decide +kernel, rfl, by decide +kernel, by decide +kernel⟩
theorem ok_law_shown (B : Bi mg) {c_ScribeError c_NoWay c_NoRoom c_NotPlain c_OtherSigns c_TooMany c_TwoWays c_NeverPlain c_NoText : Addr} (XB : Xb K mg c_ScribeError c_NoWay c_NoRoom c_NotPlain c_OtherSigns c_TooMany c_TwoWays c_NeverPlain c_NoText)  {f : Addr} {fd : FuncData} (F : Fun K "_law_shown" "_law_shown" s_law_shown f fd) : FnOk P w K mg base CX0 1 f fd ["_law_scribe"] (spLS86 K) := by
  refine F.ok sc_law_shown (fun vs H Q E h => ?_) (fun cdv A outer s H vs Q E hr h => ?_)
  · obtain ⟨v, s, pb, ps, pe, rfl, _⟩ := h; rfl
  obtain ⟨v, s, pb, ps, pe, rfl, hV, ok, q⟩ := h
  refine ⟨_, (pss_cons (ps_set (i := 1) sc_law_shown.nd rfl (Or.inl rfl) (pe_lst (pa_cons (pe_op op_add_str (pe_op op_add_str (pe_ix (kIx (K := K) rIxT ix_tup) (pv 0) pe_int (by intro _ _; rfl)) pe_str) (pe_callTy call_strI (by rfl) B.str bt_str (pa_cons (pe_ix (kIx (K := K) rIxT ix_tup) (pv 0) pe_int (by intro _ _; rfl)) pa_nil))) pa_nil)))
      (pss_cons (ps_for PassesOwn.never (by rfl) (kPI (K := K) (fun k => iList k _) (pi_list (pe_ix (kIx (K := K) rIxT ix_tup) (pv 0) pe_int (by intro _ _; rfl)))) (kPG (K := K) (fun k => gTup k 2 _) (pg_tup (n := 2) (by rfl) (pgs_cons (pg_name (i := 2) sc_law_shown.nd rfl (Or.inl rfl)) (pgs_cons (pg_name (i := 3) sc_law_shown.nd rfl (Or.inl rfl)) pgs_nil)))) (pss_one (ps_expr (kPE (K := K) (fun k => tBM k _ _ _ _) (pe_bm PySem.F.plainAttrs_list PySem.F.slot_list_append PySem.F.type_list_append mt_append (pv 1) (pa_cons (pe_op op_add_str (pe_op op_add_str (pe_op op_add_str pe_str (pe_callTy call_strI (by rfl) B.str bt_str (pa_cons (pv 2) pa_nil))) pe_str) (pe_slice sl_str (pe_op op_add_str (pv 3) pe_str) po_none (po_some (pe_callB (call_max2 (by rfl)) (by rfl) B.max bt_max (pa_cons (pe_callB call_len_str (by rfl) B.len bt_len (pa_cons (pv 3) pa_nil)) (pa_cons pe_int pa_nil)))))) pa_nil))))))
      (pss_cons (ps_for PassesOwn.never (by rfl) (kPI (K := K) (fun k => iList k _) (pi_list (pe_ix (kIx (K := K) rIxT ix_tup) (pv 0) pe_int (by intro _ _; rfl)))) (kPG (K := K) (fun k => gTup k 4 _) (pg_tup (n := 4) (by rfl) (pgs_cons (pg_name (i := 4) sc_law_shown.nd rfl (Or.inl rfl)) (pgs_cons (pg_name (i := 5) sc_law_shown.nd rfl (Or.inl rfl)) (pgs_cons (pg_name (i := 3) sc_law_shown.nd rfl (Or.inl rfl)) (pgs_cons (pg_name (i := 6) sc_law_shown.nd rfl (Or.inl rfl)) pgs_nil)))))) (pss_cons (ps_set (i := 7) sc_law_shown.nd rfl (Or.inl rfl) (pe_slice sl_str (pe_op op_add_str (pv 3) pe_str) po_none (po_some (pe_callB (call_max2 (by rfl)) (by rfl) B.max bt_max (pa_cons (pe_callB call_len_str (by rfl) B.len bt_len (pa_cons (pv 3) pa_nil)) (pa_cons pe_int pa_nil))))))
      (pss_one (ps_expr (kPE (K := K) (fun k => tBM k _ _ _ _) (pe_bm PySem.F.plainAttrs_list PySem.F.slot_list_append PySem.F.type_list_append mt_append (pv 1) (pa_cons (pe_op op_add_str (pe_op op_add_str (pe_op op_add_str (pe_op op_add_str (pe_op op_add_str (pe_op op_add_str (pe_op op_add_str pe_str (pe_callTy call_strI (by rfl) B.str bt_str (pa_cons (pv 4) pa_nil))) pe_str) (pv 5)) pe_str) (pv 7)) pe_str) (pe_callTy call_strI (by rfl) B.str bt_str (pa_cons (pv 6) pa_nil))) pa_nil)))))))
      (pss_cons (ps_for PassesOwn.never (by rfl) (kPI (K := K) (fun k => iList k _) (pi_list (pe_ix (kIx (K := K) rIxT ix_tup) (pv 0) pe_int (by intro _ _; rfl)))) (kPG (K := K) (fun k => gTup k 2 _) (pg_tup (n := 2) (by rfl) (pgs_cons (pg_name (i := 2) sc_law_shown.nd rfl (Or.inl rfl)) (pgs_cons (pg_name (i := 3) sc_law_shown.nd rfl (Or.inl rfl)) pgs_nil)))) (pss_one (ps_expr (kPE (K := K) (fun k => tBM k _ _ _ _) (pe_bm PySem.F.plainAttrs_list PySem.F.slot_list_append PySem.F.type_list_append mt_append (pv 1) (pa_cons (pe_op op_add_str (pe_op op_add_str (pe_op op_add_str pe_str (pe_callTy call_strI (by rfl) B.str bt_str (pa_cons (pv 2) pa_nil))) pe_str) (pe_slice sl_str (pe_op op_add_str (pv 3) pe_str) po_none (po_some (pe_callB (call_max2 (by rfl)) (by rfl) B.max bt_max (pa_cons (pe_callB call_len_str (by rfl) B.len bt_len (pa_cons (pv 3) pa_nil)) (pa_cons pe_int pa_nil)))))) pa_nil))))))
      (pss_one (ps_ret (pv 1))))))), ?_⟩
  obtain ⟨a, xb, xs, xe, rfl, h1, h2, h3, h4, h5, h6, h7⟩ := hV
  obtain ⟨n, hn⟩ := Int.eq_ofNat_of_zero_le ok.r0
  have hr1 := ok.r1
  have hs2 := ok.s2
  have en : s.rooms.toNat = n := by rw [hn]; rfl
  have g4 := (num_len (n := n) (by omega)).2
  have es : (Str.ofString " ").length = 1 := by decide +kernel
  have er : s.signs ++ Str.ofString " " ++ numS n = row0 s := by unfold row0; rw [en, join2, join1]
  refine ⟨_, rfl, a, _, _, _, rfl, rfl, h1, rfl, _, _, rfl, rfl, szl (by omega), _, rfl, a, _, _, _, rfl, rfl, h1, rfl, n, by rw [hn], by omega, _, _, rfl, rfl, szl (by rw [len_app]; omega), szl (by simp), fun pr hpr0 => ?_⟩
  rw [er]
  have g0 := same_new hpr0 (.lst [V.str (row0 s)])
  have E0 := upd_same (H := H) (a := pr) (o := .lst [V.str (row0 s)])
  generalize upd H pr (.lst [V.str (row0 s)]) = H0 at g0 E0 ⊢
  
  refine ⟨_, rfl, a, _, _, _, rfl, rfl, Same.seqT g0 h1, rfl, pb, rfl, ⟨xb, g0.seq h2⟩, ?_⟩
  refine for_list (xs := xb) (fun i σ H' => Same H H' ∧ i ≤ xb.length ∧ (∃ x2 x3, σ = [some (.ref a), some (.ref pr), x2, x3, none, none, none, none]) ∧ H' pr = some (.lst ([V.str (row0 s)] ++ ((s.begins.take i).map (rowM "begin")).map V.str)))
    ⟨g0, Nat.zero_le _, ⟨none, none, rfl⟩, by rw [List.take_zero, List.map_nil, List.map_nil, List.append_nil]; exact E0⟩ (fun i σ H' _ z => z.1.seq h2) ?_ ?_
  · rintro i y σ H6 hy ⟨g6, hi, ⟨x2, x3, rfl⟩, ez⟩
    obtain ⟨m, hm, b, rfl, hb⟩ := paired_get h5 hy
    have hil : i < xb.length := (List.getElem?_eq_some_iff.mp hy).1
    have hll := h5.length
    obtain ⟨m0, m1, m2⟩ := ok.mb m (List.mem_of_getElem? hm)
    obtain ⟨k, hk⟩ := Int.eq_ofNat_of_zero_le m0
    have kl := (num_len (n := k) (by omega)).2
    have wl := m2.1
    have swl := shW_len m2
    have e1 : (Str.ofString " ").length = 1 := by decide +kernel
    have e2 : (Str.ofString "-").length = 1 := by decide +kernel
    have e3 : (Str.ofString "begin ").length ≤ 6 := by decide +kernel
    refine ⟨b, _, rfl, Same.seqT g6 hb, rfl, _, _, rfl, _, _, rfl, rfl, ?_⟩
    refine ⟨_, rfl, .inl ⟨rfl, _, SqL.of ez⟩, _, rfl, k, by rw [hk], by omega, _, _, rfl, rfl, szl (by omega), _, _, rfl, rfl, szl (by rw [len_app]; omega), _, rfl, _, _, rfl, rfl, szl (by omega), _, rfl, m.2, rfl, szl (by omega), _, _, rfl, _, rfl, _, rfl, szl (by rw [len_app]; omega), ?_⟩
    rw [sl_word rfl]
    refine ⟨_, _, rfl, rfl, szl (by rw [len_app, len_app]; omega), pr, _, _, rfl, rfl, ez, ?_, same_updN g6 hpr0, hil, ⟨_, _, rfl⟩, ?_⟩
    · simp only [List.length_append, List.length_map, List.length_take, List.length_singleton]; have := ok.ok.lb; have := ok.ok.ls; have := ok.ok.le; exact szl' (by omega)
    rw [upd_same, take_get hm, List.map_append, List.map_append, ← List.append_assoc, row_is (k := Str.ofString "begin") (kb := Str.ofString "begin ") (by decide +kernel) hk]
    rfl
  rintro σ faH ⟨Gfa, _, ⟨x2, x3, rfl⟩, Efa⟩
  rw [← h5.length, List.take_length] at Efa
  
  refine ⟨_, rfl, a, _, _, _, rfl, rfl, Same.seqT Gfa h1, rfl, ps, rfl, ⟨xs, Gfa.seq h3⟩, ?_⟩
  refine for_list (xs := xs) (fun i σ H' => Same H H' ∧ i ≤ xs.length ∧ (∃ x2 x3 x4 x5 x6 x7, σ = [some (.ref a), some (.ref pr), x2, x3, x4, x5, x6, x7]) ∧ H' pr = some (.lst (([V.str (row0 s)] ++ (s.begins.map (rowM "begin")).map V.str) ++ ((s.steps.take i).map rowS).map V.str)))
    ⟨Gfa, Nat.zero_le _, ⟨x2, x3, none, none, none, none, rfl⟩, by rw [List.take_zero, List.map_nil, List.map_nil, List.append_nil]; exact Efa⟩ (fun i σ H' _ z => z.1.seq h3) ?_ ?_
  · rintro i y σ H6 hy ⟨g6, hi, ⟨x2, x3, x4, x5, x6, x7, rfl⟩, ez⟩
    obtain ⟨t, ht, b, rfl, hb⟩ := paired_get h6 hy
    have hil : i < xs.length := (List.getElem?_eq_some_iff.mp hy).1
    have hll := h6.length
    obtain ⟨m0, m1, m2, m3, m4, c, c1, c2, ec⟩ := ok.ms t (List.mem_of_getElem? ht)
    obtain ⟨k1, hk1⟩ := Int.eq_ofNat_of_zero_le m0
    obtain ⟨k2, hk2⟩ := Int.eq_ofNat_of_zero_le m2
    have kl1 := (num_len (n := k1) (by omega)).2
    have kl2 := (num_len (n := k2) (by omega)).2
    have wl := m4.1
    have swl := shW_len m4
    have sl1 : t.2.1.length = 1 := by rw [ec]; rfl
    have e1 : (Str.ofString " ").length = 1 := by decide +kernel
    have e2 : (Str.ofString "-").length = 1 := by decide +kernel
    have e3 : (Str.ofString "step ").length = 5 := by decide +kernel
    refine ⟨b, _, rfl, Same.seqT g6 hb, rfl, _, _, rfl, _, _, rfl, _, _, rfl, _, _, rfl, rfl, ?_⟩
    refine ⟨_, rfl, _, _, rfl, rfl, szl (by omega), _, rfl, t.2.2.1, rfl, szl (by omega), _, _, rfl, _, rfl, _, rfl, szl (by rw [len_app]; omega), ?_⟩
    rw [sl_word rfl]
    refine ⟨_, rfl, .inl ⟨rfl, _, SqL.of ez⟩, _, rfl, k1, by rw [hk1], by omega, _, _, rfl, rfl, szl (by omega), _, _, rfl, rfl, szl (by rw [len_app]; omega), _, rfl, _, _, rfl, rfl, szl (by rw [len_app, len_app]; omega), _, _, rfl, rfl, szl (by rw [len_app, len_app, len_app]; omega), _, rfl, _, _, rfl, rfl, szl (by rw [len_app, len_app, len_app, len_app]; omega), _, _, rfl, rfl, szl (by rw [len_app, len_app, len_app, len_app, len_app]; omega), _, rfl, k2, by rw [hk2], by omega, _, _, rfl, rfl, szl (by rw [len_app, len_app, len_app, len_app, len_app, len_app]; omega), ?_⟩
    refine ⟨pr, _, _, rfl, rfl, ez, ?_, same_updN g6 hpr0, hil, ⟨_, _, _, _, _, _, rfl⟩, ?_⟩
    · simp only [List.length_append, List.length_map, List.length_take, List.length_singleton]; have := ok.ok.lb; have := ok.ok.ls; have := ok.ok.le; exact szl' (by omega)
    rw [upd_same, take_get ht, List.map_append, List.map_append, ← List.append_assoc, step_is hk1 hk2]
    rfl
  rintro σ fbH ⟨Gfb, _, ⟨x2, x3, x4, x5, x6, x7, rfl⟩, Efb⟩
  rw [← h6.length, List.take_length] at Efb
  
  refine ⟨_, rfl, a, _, _, _, rfl, rfl, Same.seqT Gfb h1, rfl, pe, rfl, ⟨xe, Gfb.seq h4⟩, ?_⟩
  refine for_list (xs := xe) (fun i σ H' => Same H H' ∧ i ≤ xe.length ∧ (∃ x2 x3 x4 x5 x6 x7, σ = [some (.ref a), some (.ref pr), x2, x3, x4, x5, x6, x7]) ∧ H' pr = some (.lst (([V.str (row0 s)] ++ (s.begins.map (rowM "begin")).map V.str ++ (s.steps.map rowS).map V.str) ++ ((s.ends.take i).map (rowM "end")).map V.str)))
    ⟨Gfb, Nat.zero_le _, ⟨x2, x3, x4, x5, x6, x7, rfl⟩, by rw [List.take_zero, List.map_nil, List.map_nil, List.append_nil]; exact Efb⟩ (fun i σ H' _ z => z.1.seq h4) ?_ ?_
  · rintro i y σ H6 hy ⟨g6, hi, ⟨x2, x3, x4, x5, x6, x7, rfl⟩, ez⟩
    obtain ⟨m, hm, b, rfl, hb⟩ := paired_get h7 hy
    have hil : i < xe.length := (List.getElem?_eq_some_iff.mp hy).1
    have hll := h7.length
    obtain ⟨m0, m1, m2⟩ := ok.me m (List.mem_of_getElem? hm)
    obtain ⟨k, hk⟩ := Int.eq_ofNat_of_zero_le m0
    have kl := (num_len (n := k) (by omega)).2
    have wl := m2.1
    have swl := shW_len m2
    have e1 : (Str.ofString " ").length = 1 := by decide +kernel
    have e2 : (Str.ofString "-").length = 1 := by decide +kernel
    have e3 : (Str.ofString "end ").length ≤ 6 := by decide +kernel
    refine ⟨b, _, rfl, Same.seqT g6 hb, rfl, _, _, rfl, _, _, rfl, rfl, ?_⟩
    refine ⟨_, rfl, .inl ⟨rfl, _, SqL.of ez⟩, _, rfl, k, by rw [hk], by omega, _, _, rfl, rfl, szl (by omega), _, _, rfl, rfl, szl (by rw [len_app]; omega), _, rfl, _, _, rfl, rfl, szl (by omega), _, rfl, m.2, rfl, szl (by omega), _, _, rfl, _, rfl, _, rfl, szl (by rw [len_app]; omega), ?_⟩
    rw [sl_word rfl]
    refine ⟨_, _, rfl, rfl, szl (by rw [len_app, len_app]; omega), pr, _, _, rfl, rfl, ez, ?_, same_updN g6 hpr0, hil, ⟨_, _, _, _, _, _, rfl⟩, ?_⟩
    · simp only [List.length_append, List.length_map, List.length_take, List.length_singleton]; have := ok.ok.lb; have := ok.ok.ls; have := ok.ok.le; exact szl' (by omega)
    rw [upd_same, take_get hm, List.map_append, List.map_append, ← List.append_assoc, row_is (k := Str.ofString "end") (kb := Str.ofString "end ") (by decide +kernel) hk]
    rfl
  rintro σ fcH ⟨Gfc, _, ⟨x2, x3, x4, x5, x6, x7, rfl⟩, Efc⟩
  rw [← h7.length, List.take_length] at Efc
  
  refine ⟨_, rfl, q pr _ Gfc hpr0 ?_⟩
  rw [Efc]
  unfold rowsOf
  rw [List.map_append, List.map_append, List.map_append]
  rfl

theorem sc_law_alone : FnScope ["_law_error", "_law_told"] ["_law_error"] (defScope s_law_alone) := ⟨rfl, rfl, rfl, by decide +kernel, rfl, by decide +kernel, by decide +kernel⟩
theorem ok_law_alone (B : Bi mg) {c_ScribeError c_NoWay c_NoRoom c_NotPlain c_OtherSigns c_TooMany c_TwoWays c_NeverPlain c_NoText : Addr} (XB : Xb K mg c_ScribeError c_NoWay c_NoRoom c_NotPlain c_OtherSigns c_TooMany c_TwoWays c_NeverPlain c_NoText)  {f : Addr} {fd : FuncData} (F : Fun K "_law_alone" "_law_alone" s_law_alone f fd) : FnOk P w K mg base CX0 1 f fd ["_law_error"] (spAlone K c_NoText) := by
  refine F.ok sc_law_alone (fun vs H Q E h => ?_) (fun cdv A outer s H vs Q E hr h => ?_)
  · obtain ⟨x, rfl, _⟩ := h; rfl
  obtain ⟨x, rfl, hx, q⟩ := h
  refine ⟨_, (pss_cons (ps_if (PW.pt (pw_or (pt_not (pt_val (pe_callB (kCall (K := K) rIsX call_isinstX) (by rfl) B.isinstance bt_isinstance (pa_cons (pv 0) (pa_cons (pe_globC (by rfl) XB.nm_ScribeError) pa_nil))))) (pw_or1 (pt_not (pt_val (pe_callB (kCall (K := K) rIsX call_isinstX) (by rfl) B.isinstance bt_isinstance (pa_cons (pv 0) (pa_cons (pe_ty (by rfl) B.ValueError bt_ValueError) pa_nil)))))))) (pss_one (ps_ret pe_bl)) pss_nil)
      (pss_cons (ps_set (i := 1) sc_law_alone.nd rfl (Or.inl rfl) (pe_lst (pa_cons (pe_callB (kCall (K := K) rIsX call_isinstX) (by rfl) B.isinstance bt_isinstance (pa_cons (pv 0) (pa_cons (pe_globC (by rfl) XB.nm_NoWay) pa_nil))) (pa_cons (pe_callB (kCall (K := K) rIsX call_isinstX) (by rfl) B.isinstance bt_isinstance (pa_cons (pv 0) (pa_cons (pe_globC (by rfl) XB.nm_NoRoom) pa_nil))) (pa_cons (pe_callB (kCall (K := K) rIsX call_isinstX) (by rfl) B.isinstance bt_isinstance (pa_cons (pv 0) (pa_cons (pe_globC (by rfl) XB.nm_NotPlain) pa_nil))) pa_nil)))))
      (pss_cons (ps_set (i := 1) sc_law_alone.nd rfl (Or.inl rfl) (pe_op op_cat (pv 1) (pe_lst (pa_cons (pe_callB (kCall (K := K) rIsX call_isinstX) (by rfl) B.isinstance bt_isinstance (pa_cons (pv 0) (pa_cons (pe_globC (by rfl) XB.nm_OtherSigns) pa_nil))) (pa_cons (pe_callB (kCall (K := K) rIsX call_isinstX) (by rfl) B.isinstance bt_isinstance (pa_cons (pv 0) (pa_cons (pe_globC (by rfl) XB.nm_TooMany) pa_nil))) (pa_cons (pe_callB (kCall (K := K) rIsX call_isinstX) (by rfl) B.isinstance bt_isinstance (pa_cons (pv 0) (pa_cons (pe_globC (by rfl) XB.nm_TwoWays) pa_nil))) pa_nil))))))
      (pss_cons (ps_set (i := 1) sc_law_alone.nd rfl (Or.inl rfl) (pe_op op_cat (pv 1) (pe_lst (pa_cons (pe_callB (kCall (K := K) rIsX call_isinstX) (by rfl) B.isinstance bt_isinstance (pa_cons (pv 0) (pa_cons (pe_globC (by rfl) XB.nm_NeverPlain) pa_nil))) (pa_cons (pe_callB (kCall (K := K) rIsX call_isinstX) (by rfl) B.isinstance bt_isinstance (pa_cons (pv 0) (pa_cons (pe_globC (by rfl) XB.nm_NoText) pa_nil))) pa_nil)))))
      (pss_one (ps_ret (pe_cmpR op_eq (pe_callB (kLen (K := K)) (by rfl) B.len bt_len (pa_cons (pe_comp rfl (blk_mk (N' := ["_law_one"]) (js := [none]) rfl (by decide +kernel) rfl (by decide +kernel) rfl rfl) (kPI (K := K) (fun k => iList k _) (pi_list (pv 1))) (fun _ _ _ _ _ => (pg_name (i := 0) (show List.Nodup (["_law_one"] : List Str) by decide +kernel) rfl (Or.inl rfl))) (fun _ _ _ _ _ => (pf_one (pt_val (pv 0)))) (fun _ _ _ _ _ => (pv 0))) pa_nil)) pe_int (nomark _)))))))), ?_⟩
  refine ⟨_, rfl, x, c_NoText, _, _, _, rfl, hx, XB.xc_NoText, rfl, XB.is_NoText_ScribeError, _, rfl, iteF ?_⟩
  refine ⟨_, rfl, x, c_NoText, _, _, _, rfl, hx, XB.xc_NoText, rfl, XB.iv_NoText_ValueError, _, rfl, iteF ?_⟩
  refine ⟨_, rfl, x, c_NoText, _, _, _, rfl, hx, XB.xc_NoText, rfl, XB.is_NoText_NoWay, _, rfl, x, c_NoText, _, _, _, rfl, hx, XB.xc_NoText, rfl, XB.is_NoText_NoRoom, _, rfl, x, c_NoText, _, _, _, rfl, hx, XB.xc_NoText, rfl, XB.is_NoText_NotPlain, szl (by simp), fun p1 hp1 => ?_⟩
  have g1 := same_new hp1 (.lst [V.bl false, V.bl false, V.bl false])
  have e1 := upd_same (H := H) (a := p1) (o := .lst [V.bl false, V.bl false, V.bl false])
  have hx1 := g1 _ _ hx
  generalize upd H p1 (.lst [V.bl false, V.bl false, V.bl false]) = H1 at g1 e1 hx1 ⊢
  refine ⟨_, rfl, _, rfl, x, c_NoText, _, _, _, rfl, hx1, XB.xc_NoText, rfl, XB.is_NoText_OtherSigns, _, rfl, x, c_NoText, _, _, _, rfl, hx1, XB.xc_NoText, rfl, XB.is_NoText_TooMany, _, rfl, x, c_NoText, _, _, _, rfl, hx1, XB.xc_NoText, rfl, XB.is_NoText_TwoWays, szl (by simp), fun p2 hp2 => ?_⟩
  have k2 := same_new hp2 (.lst [V.bl false, V.bl false, V.bl false])
  refine ⟨p1, p2, _, _, rfl, rfl, k2 _ _ e1, upd_same, szl (by simp), fun p3 hp3 => ?_⟩
  have k3 := same_new hp3 (.lst ([V.bl false, V.bl false, V.bl false] ++ [V.bl false, V.bl false, V.bl false]))
  have g3 := (g1.trans k2).trans k3
  have e3 := upd_same (H := upd H1 p2 (.lst [V.bl false, V.bl false, V.bl false])) (a := p3) (o := .lst ([V.bl false, V.bl false, V.bl false] ++ [V.bl false, V.bl false, V.bl false]))
  have hx3 := g3 _ _ hx
  generalize upd (upd H1 p2 (.lst [V.bl false, V.bl false, V.bl false])) p3 (.lst ([V.bl false, V.bl false, V.bl false] ++ [V.bl false, V.bl false, V.bl false])) = H3 at g3 e3 hx3 ⊢
  refine ⟨_, rfl, _, rfl, x, c_NoText, _, _, _, rfl, hx3, XB.xc_NoText, rfl, XB.is_NoText_NeverPlain, _, rfl, x, c_NoText, _, _, _, rfl, hx3, XB.xc_NoText, rfl, XB.is_NoText_NoText, szl (by simp), fun p4 hp4 => ?_⟩
  have k4 := same_new hp4 (.lst [V.bl false, V.bl true])
  refine ⟨p3, p4, _, _, rfl, rfl, k4 _ _ e3, upd_same, szl (by simp), fun p5 hp5 => ?_⟩
  have k5 := same_new hp5 (.lst ([V.bl false, V.bl false, V.bl false] ++ [V.bl false, V.bl false, V.bl false] ++ [V.bl false, V.bl true]))
  have g5 := (g3.trans k4).trans k5
  have e5 : upd (upd H3 p4 (.lst [V.bl false, V.bl true])) p5 (.lst ([V.bl false, V.bl false, V.bl false] ++ [V.bl false, V.bl false, V.bl false] ++ [V.bl false, V.bl true])) p5 = some (.lst (bsA.map V.bl)) := upd_same
  generalize upd (upd H3 p4 (.lst [V.bl false, V.bl true])) p5 (.lst ([V.bl false, V.bl false, V.bl false] ++ [V.bl false, V.bl false, V.bl false] ++ [V.bl false, V.bl true])) = H5 at g5 e5 ⊢
  refine ⟨_, rfl, p5, rfl, ⟨_, SqL.of e5⟩, ?_⟩
  refine comp_list (xs := bsA.map V.bl) (fun i ys τ H' => H5 = H' ∧ (∃ y, τ = [y]) ∧ i ≤ 8 ∧ ys = ((bsA.take i).filter id).map V.bl) ⟨rfl, ⟨_, rfl⟩, Nat.zero_le _, rfl⟩ (fun i ys τ H' z => z.1 ▸ SqL.of e5) ?_ ?_
  · rintro i y ys τ _ hy ⟨rfl, ⟨y0, rfl⟩, hi, rfl⟩
    rw [List.getElem?_map] at hy
    obtain ⟨b, hb, rfl⟩ := Option.map_eq_some_iff.mp hy
    have hil : i < 8 := (List.getElem?_eq_some_iff.mp hb).1
    have hyl : (((bsA.take i).filter id).map V.bl).length ≤ 999 := by
      rw [List.length_map]
      have := List.length_filter_le id (bsA.take i)
      rw [List.length_take] at this
      omega
    refine ⟨_, rfl, b, rfl, ?_⟩
    cases b with
    | true =>
      refine iteT ⟨_, rfl, szl' (by omega), rfl, ⟨_, rfl⟩, hil, ?_⟩
      rw [take_get hb, List.filter_append, List.map_append]; rfl
    | false =>
      refine iteF ⟨rfl, ⟨_, rfl⟩, hil, ?_⟩
      rw [take_get hb, List.filter_append, List.map_append]
      show _ = _ ++ []
      rw [List.append_nil]
  rintro ys τ _ ⟨rfl, _, _, rfl⟩ p6 hp6
  refine ⟨p6, _, rfl, .inl (SqL.of upd_same), rfl, ?_⟩
  exact q _ (g5.trans (same_new hp6 _))

theorem sc_law_signs_bent : FnScope ["_law_text", "_law_number_here", "_law_more", "_law_some", "_law_sign", "_law_at", "_law_next_sign"] ["_law_text", "_law_number_here", "_law_more"] (defScope s_law_signs_bent) := ⟨rfl, rfl, rfl, by decide +kernel, rfl, by decide +kernel, by decide +kernel⟩
theorem ok_law_signs_bent (B : Bi mg) {c_ScribeError c_NoWay c_NoRoom c_NotPlain c_OtherSigns c_TooMany c_TwoWays c_NeverPlain c_NoText : Addr} (XB : Xb K mg c_ScribeError c_NoWay c_NoRoom c_NotPlain c_OtherSigns c_TooMany c_TwoWays c_NeverPlain c_NoText)  {f : Addr} {fd : FuncData} (F : Fun K "_law_signs_bent" "_law_signs_bent" s_law_signs_bent f fd) : FnOk P w K mg base CX0 1 f fd ["_law_text", "_law_number_here", "_law_more"] (spSigB) := by
  refine F.ok sc_law_signs_bent (fun vs H Q E h => ?_) (fun cdv A outer s H vs Q E hr h => ?_)
  · obtain ⟨x, n, m, rfl, _⟩ := h; rfl
  obtain ⟨x, n, m, rfl, hx1, hx2, hn0, hn1, hm0, hm1, q⟩ := h
  refine ⟨_, (pss_cons (ps_set (i := 3) sc_law_signs_bent.nd rfl (Or.inl rfl) pe_str)
      (pss_cons (ps_set (i := 3) sc_law_signs_bent.nd rfl (Or.inl rfl) (pe_op op_add_str (pv 3) pe_str))
      (pss_mid (ps_if (pt_cmpR op_eq (pe_op op_mod (pv 2) pe_int) pe_int (nomark _)) (pss_one (ps_set (i := 3) sc_law_signs_bent.nd rfl (Or.inl rfl) (pe_op op_add_str pe_str (pv 0)))) pss_nil)
      (pss_cons (ps_set (i := 4) sc_law_signs_bent.nd rfl (Or.inl rfl) (pe_ix ix_str (pv 3) (pe_op op_mod (pe_op op_fdiv (pv 2) pe_int) (pe_callB call_len_str (by rfl) B.len bt_len (pa_cons (pv 3) pa_nil))) (by intro _ _; rfl)))
      (pss_cons (ps_set (i := 5) sc_law_signs_bent.nd rfl (Or.inl rfl) (pe_op op_mod (pe_op op_fdiv (pv 1) pe_int) (pe_op op_add (pe_callB call_len_str (by rfl) B.len bt_len (pa_cons (pv 0) pa_nil)) pe_int)))
      (pss_cons (ps_if (pt_cmpR op_eq (pe_op op_mod (pv 1) pe_int) pe_int (nomark _)) (pss_one (ps_ret (pe_op op_add_str (pe_op op_add_str (pe_slice sl_str (pv 0) po_none (po_some (pv 5))) (pv 4)) (pe_slice sl_str (pv 0) (po_some (pv 5)) po_none)))) pss_nil)
      (pss_cons (ps_if (pt_cmpR op_eq (pe_op op_mod (pv 1) pe_int) pe_int (nomark _)) (pss_one (ps_ret (pe_slice sl_str (pv 0) po_none (po_some (pv 5))))) pss_nil)
      (pss_cons (ps_set (i := 5) sc_law_signs_bent.nd rfl (Or.inl rfl) (pe_callB (call_min2 (by rfl)) (by rfl) B.min bt_min (pa_cons (pv 5) (pa_cons (pe_op op_sub (pe_callB call_len_str (by rfl) B.len bt_len (pa_cons (pv 0) pa_nil)) pe_int) pa_nil))))
      (pss_cons (ps_if (pt_cmpR op_eq (pe_op op_mod (pv 1) pe_int) pe_int (nomark _)) (pss_one (ps_ret (pe_op op_add_str (pe_slice sl_str (pv 0) po_none (po_some (pv 5))) (pe_slice sl_str (pv 0) (po_some (pe_op op_add (pv 5) pe_int)) po_none)))) pss_nil)
      (pss_cons (ps_if (pt_abs (PW.pt (pw_or (pt_cmpR op_eq (pe_op op_mod (pv 1) pe_int) pe_int (nomark _)) (pw_or1 (pt_cmpR op_eq (pe_op op_mod (pv 1) pe_int) pe_int (nomark _)))))) (pss_one (ps_ret (pe_op op_add_str (pe_op op_add_str (pe_slice sl_str (pv 0) po_none (po_some (pv 5))) (pv 4)) (pe_slice sl_str (pv 0) (po_some (pe_op op_add (pv 5) pe_int)) po_none)))) pss_nil)
      (pss_cons (ps_set (i := 6) sc_law_signs_bent.nd rfl (Or.inl rfl) (pe_slice sl_str (pv 0) (po_some (pe_op op_add (pv 5) pe_int)) (po_some (pe_op op_add (pv 5) pe_int))))
      (pss_one (ps_ret (pe_op op_add_str (pe_op op_add_str (pe_op op_add_str (pe_slice sl_str (pv 0) po_none (po_some (pv 5))) (pv 6)) (pe_ix ix_str (pv 0) (pv 5) (by intro _ _; rfl))) (pe_slice sl_str (pv 0) (po_some (pe_op op_add (pv 5) pe_int)) po_none))))))))))))))), ?_⟩
  have lA : (Str.ofString " !\"#$&'()*+,-./0123456789:;<=>?@ABCDEFGHIJKLMNOPQRSTUVWXYZ[\\]^_`").length ≤ 100 := by decide +kernel
  have lB : 1 ≤ (Str.ofString "abcdefghijklmnopqrstuvwxyz{|}~\n").length ∧ (Str.ofString "abcdefghijklmnopqrstuvwxyz{|}~\n").length ≤ 100 := by decide +kernel
  have lC : 1 ≤ (Str.ofString " -0129\n").length ∧ (Str.ofString " -0129\n").length ≤ 100 := by decide +kernel
  refine ⟨_, rfl, _, _, rfl, rfl, szl (by omega), ?_⟩
  refine ⟨fun σ' H' => H = H' ∧ ∃ so : Str, 1 ≤ so.length ∧ so.length ≤ 4000 ∧ σ' = [some (.str x), some (.int n), some (.int m), some (.str so), none, none, none], ?_, ?_⟩
  · refine ⟨_, rfl, _, _, rfl, rfl, pz, rfl, _, rfl, iteDd (fun c => ?_) (fun c => ⟨rfl, _, ?_, ?_, rfl⟩)⟩
    · exact ⟨_, rfl, _, _, rfl, rfl, szl (by omega), rfl, _, (by rw [len_app]; omega), (by rw [len_app]; omega), rfl⟩
    · rw [len_app]; omega
    · rw [len_app]; omega
  rintro _ _ ⟨rfl, so, so1, so2, rfl⟩
  have hsL : (0 : Int) < (so.length : Int) := by omega
  obtain ⟨c, hc, _⟩ := at_mem (xs := cl so) (i := m / 2 % (so.length : Int)) (Int.emod_nonneg _ (by omega)) (by rw [cl_length]; exact Int.emod_lt_of_pos _ hsL)
  refine ⟨_, rfl, _, rfl, _, _, rfl, rfl, ⟨by decide, by decide⟩, _, rfl, so, rfl, szl (by omega), _, _, rfl, rfl, hsL, so, _, c, rfl, rfl, szl (by omega), hc, ?_⟩
  have hxL : (0 : Int) < (x.length : Int) + 1 := by omega
  refine ⟨_, rfl, _, _, rfl, rfl, ⟨by decide, by decide⟩, _, rfl, x, rfl, szl (by omega), _, _, rfl, rfl, _, _, rfl, rfl, hxL, ?_⟩
  have a0 := Int.emod_nonneg (n / 12) (show (x.length : Int) + 1 ≠ 0 by omega)
  have a1 := Int.emod_lt_of_pos (n / 12) hxL
  show gName 5 (V.int (n / 12 % ((x.length : Int) + 1))) _ _ _
  generalize n / 12 % ((x.length : Int) + 1) = ai at a0 a1 ⊢
  obtain ⟨k, rfl⟩ := Int.eq_ofNat_of_zero_le a0
  have e1 : (⟨#[c]⟩ : Str).length = 1 := rfl
  have A1 := sl_to (z := x) (j := k)
  have A2 := sl_from (z := x) (j := k)
  refine ⟨_, rfl, _, _, rfl, rfl, pz, rfl, _, rfl, iteDd (fun c1 => ?_) (fun c1 => ?_)⟩
  · exact ⟨_, rfl, _, rfl, _, rfl, _, rfl, szl (by omega), _, rfl, _, _, rfl, rfl, szl (by omega), _, rfl, _, rfl, _, rfl, _, rfl, szl (by omega), _, _, rfl, rfl, szl (by rw [len_app]; omega), q _ (by rw [len_app, len_app]; omega)⟩
  refine ⟨_, rfl, _, _, rfl, rfl, pz, rfl, _, rfl, iteDd (fun c2 => ?_) (fun c2 => ?_)⟩
  · exact ⟨_, rfl, _, rfl, _, rfl, _, rfl, szl (by omega), q _ (by omega)⟩
  refine ⟨_, rfl, _, rfl, x, rfl, szl (by omega), _, _, rfl, rfl, _, _, rfl, ?_⟩
  have m0 : 0 ≤ (if (x.length : Int) - 1 < (k : Int) then (x.length : Int) - 1 else (k : Int)) := by split <;> omega
  have m1 : (if (x.length : Int) - 1 < (k : Int) then (x.length : Int) - 1 else (k : Int)) < (x.length : Int) := by split <;> omega
  show gName 5 (V.int (if (x.length : Int) - 1 < (k : Int) then (x.length : Int) - 1 else (k : Int))) _ _ _
  generalize (if (x.length : Int) - 1 < (k : Int) then (x.length : Int) - 1 else (k : Int)) = bi at m0 m1 ⊢
  obtain ⟨k, rfl⟩ := Int.eq_ofNat_of_zero_le m0
  have A1 := sl_to (z := x) (j := k)
  have A3 : (Txt.slice x (some ((k : Int) + 1)) none).length ≤ x.length - (k + 1) := sl_from (j := k + 1)
  have A4 : (Txt.slice x (some ((k : Int) + 2)) none).length ≤ x.length - (k + 2) := sl_from (j := k + 2)
  have A5 : (Txt.slice x (some ((k : Int) + 1)) (some ((k : Int) + 2))).length ≤ k + 2 - (k + 1) := sl_mid (i := k + 1) (j := k + 2)
  refine ⟨_, rfl, _, _, rfl, rfl, pz, rfl, _, rfl, iteDd (fun c3 => ?_) (fun c3 => ?_)⟩
  · exact ⟨_, rfl, _, rfl, _, rfl, _, rfl, szl (by omega), _, rfl, _, rfl, _, _, rfl, rfl, _, rfl, _, rfl, szl (by omega), _, _, rfl, rfl, szl (by omega), q _ (by rw [len_app]; omega)⟩
  refine ⟨fun b H' => H = H', ?_, ?_⟩
  · refine ⟨_, rfl, _, _, rfl, rfl, pz, rfl, _, rfl, iteDd (fun c => rfl) (fun c => ?_)⟩
    exact ⟨_, rfl, _, _, rfl, rfl, pz, rfl, _, rfl, rfl⟩
  rintro b _ rfl
  cases b with
  | true =>
    exact iteT ⟨_, rfl, _, rfl, _, rfl, _, rfl, szl (by omega), _, rfl, _, _, rfl, rfl, szl (by omega), _, rfl, _, rfl, _, _, rfl, rfl, _, rfl, _, rfl, szl (by omega), _, _, rfl, rfl, szl (by rw [len_app]; omega), q _ (by rw [len_app, len_app]; omega)⟩
  | false =>
    obtain ⟨c9, hc9, _⟩ := at_mem (xs := cl x) (i := (k : Int)) (by omega) (by rw [cl_length]; omega)
    have e9 : (⟨#[c9]⟩ : Str).length = 1 := rfl
    refine iteF ⟨_, rfl, _, rfl, _, _, rfl, rfl, _, rfl, _, rfl, _, _, rfl, rfl, _, rfl, _, rfl, szl (by omega), ?_⟩
    exact ⟨_, rfl, _, rfl, _, rfl, _, rfl, szl (by omega), _, rfl, _, _, rfl, rfl, szl (by omega), _, rfl, _, rfl, x, _, c9, rfl, rfl, szl (by omega), hc9, _, _, rfl, rfl, szl (by rw [len_app]; omega), _, rfl, _, rfl, _, _, rfl, rfl, _, rfl, _, rfl, szl (by omega), _, _, rfl, rfl, szl (by rw [len_app, len_app]; omega), q _ (by rw [len_app, len_app, len_app]; omega)⟩

theorem sc_law_rows_bent : FnScope ["_law_rows", "_law_number_here", "_law_more", "_law_at", "_law_to", "_law_words", "_law_odd"] ["_law_rows", "_law_number_here", "_law_more"] (defScope s_law_rows_bent) := ⟨rfl, rfl, rfl, by decide +kernel, rfl, by decide +kernel, by decide +kernel⟩
theorem ok_law_rows_bent (B : Bi mg) {c_ScribeError c_NoWay c_NoRoom c_NotPlain c_OtherSigns c_TooMany c_TwoWays c_NeverPlain c_NoText : Addr} (XB : Xb K mg c_ScribeError c_NoWay c_NoRoom c_NotPlain c_OtherSigns c_TooMany c_TwoWays c_NeverPlain c_NoText)  {f : Addr} {fd : FuncData} (F : Fun K "_law_rows_bent" "_law_rows_bent" s_law_rows_bent f fd) : FnOk P w K mg base CX0 1 f fd ["_law_rows", "_law_number_here", "_law_more"] (spBent K) := by
  refine F.ok sc_law_rows_bent (fun vs H Q E h => ?_) (fun cdv A outer s H vs Q E hr h => ?_)
  · obtain ⟨p, rows, n, m, rfl, _⟩ := h; rfl
  obtain ⟨p, rows, n, m, rfl, hp, rk, hn0, hn1, hm0, hm1, q⟩ := h
  refine ⟨_, (pss_cons (ps_set (i := 0) sc_law_rows_bent.nd rfl (Or.inl rfl) (pe_callTy (kCall (K := K) rLo call_list_of) (by rfl) B.list bt_list (pa_cons (pv 0) pa_nil)))
      (pss_cons (ps_set (i := 3) sc_law_rows_bent.nd rfl (Or.inl rfl) (pe_op op_mod (pe_op op_fdiv (pv 1) pe_int) (pe_callB (kLen (K := K)) (by rfl) B.len bt_len (pa_cons (pv 0) pa_nil))))
      (pss_cons (ps_set (i := 4) sc_law_rows_bent.nd rfl (Or.inl rfl) (pe_op op_mod (pv 2) (pe_callB (kLen (K := K)) (by rfl) B.len bt_len (pa_cons (pv 0) pa_nil))))
      (pss_mid (ps_if (pt_cmpR op_eq (pe_op op_mod (pv 1) pe_int) pe_int (nomark _)) (pss_one (ps_expr (kPE (K := K) (fun k => tBM k _ _ _ _) (pe_bm PySem.F.plainAttrs_list PySem.F.slot_list_insert PySem.F.type_list_insert mt_insert (pv 0) (pa_cons (pv 4) (pa_cons (pe_ix (kIx (K := K) rIxL ix_list) (pv 0) (pv 3) (by intro _ _; rfl)) pa_nil)))))) pss_nil)
      (pss_mid (ps_if (pt_cmpR op_eq (pe_op op_mod (pv 1) pe_int) pe_int (nomark _)) (pss_one (ps_asg (pe_tup (pa_cons (pe_ix (kIx (K := K) rIxL ix_list) (pv 0) (pv 4) (by intro _ _; rfl)) (pa_cons (pe_ix (kIx (K := K) rIxL ix_list) (pv 0) (pv 3) (by intro _ _; rfl)) pa_nil))) (kPG (K := K) (fun k => gTup k 2 _) (pg_tup (n := 2) (by rfl) (pgs_cons (pg_sub (pv 0) (pv 3) set_list) (pgs_cons (pg_sub (pv 0) (pv 4) set_list) pgs_nil)))))) pss_nil)
      (pss_mid (ps_if (pt_abs (PW.pt (pw_or (pt_cmpR op_eq (pe_op op_mod (pv 1) pe_int) pe_int (nomark _)) (pw_or1 (pt_cmpR op_eq (pe_op op_mod (pv 1) pe_int) pe_int (nomark _)))))) (pss_cons (ps_set (i := 5) sc_law_rows_bent.nd rfl (Or.inl rfl) (kPE (K := K) (fun k => tBM k _ _ _ _) (pe_bm PySem.F.plainAttrs_str PySem.F.slot_str_split PySem.F.type_str_split mt_split (pe_ix (kIx (K := K) rIxL ix_list) (pv 0) (pv 3) (by intro _ _; rfl)) (pa_cons pe_str pa_nil))))
      (pss_cons (ps_set (i := 6) sc_law_rows_bent.nd rfl (Or.inl rfl) (pe_lst (pa_cons pe_str (pa_cons pe_str (pa_cons pe_str (pa_cons pe_str (pa_cons pe_str (pa_cons pe_str (pa_cons pe_str (pa_cons pe_str (pa_cons pe_str (pa_cons pe_str (pa_cons pe_str (pa_cons pe_str (pa_cons pe_str (pa_cons pe_str (pa_cons pe_str (pa_cons pe_str pa_nil))))))))))))))))))
      (pss_cons (ps_asg (pe_ix (kIx (K := K) rIxL ix_list) (pv 6) (pe_op op_mod (pe_op op_fdiv (pv 2) pe_int) pe_int) (by intro _ _; rfl)) (pg_sub (pv 5) (pe_op op_mod (pe_op op_fdiv (pv 2) pe_int) (pe_callB (kLen (K := K)) (by rfl) B.len bt_len (pa_cons (pv 5) pa_nil))) set_list))
      (pss_one (ps_asg (kPE (K := K) (fun k => tBM k _ _ _ _) (pe_bm PySem.F.plainAttrs_str PySem.F.slot_str_join PySem.F.type_str_join mt_join pe_str (pa_cons (pv 5) pa_nil))) (pg_sub (pv 0) (pv 3) set_list)))))) pss_nil)
      (pss_mid (ps_if (pt_cmpR op_eq (pe_op op_mod (pv 1) pe_int) pe_int (nomark _)) (pss_one (ps_asg (pe_ix (kIx (K := K) rPick ix_pick) (pe_lst (pa_cons pe_str (pa_cons pe_str (pa_cons pe_str (pa_cons pe_str (pa_cons pe_str (pa_cons pe_str (pa_cons pe_str (pa_cons pe_str (pa_cons pe_str (pa_cons pe_str pa_nil))))))))))) (pe_op op_mod (pv 2) pe_int) (by intro _ _; rfl)) (pg_sub (pv 0) pe_int set_list))) pss_nil)
      (pss_one (ps_ret (pv 0)))))))))), ?_⟩
  refine ⟨_, rfl, p, _, rfl, .inl hp, fun l hl => ?_⟩
  have g1 := same_new hl (.lst (rows.map V.str))
  have el := upd_same (H := H) (a := l) (o := .lst (rows.map V.str))
  generalize upd H l (.lst (rows.map V.str)) = H1 at g1 el ⊢
  have hl0 : 0 < rows.length := List.length_pos_iff.mpr rk.l0
  have hl1 := rk.l1
  have hL : 0 < ((rows.map V.str).length : Int) := by rw [List.length_map]; omega
  refine ⟨_, rfl, _, _, rfl, rfl, ⟨by decide, by decide⟩, _, rfl, l, _, rfl, .inl (SqL.of el), _, _, rfl, rfl, hL, ?_⟩
  refine ⟨_, rfl, _, rfl, l, _, rfl, .inl (SqL.of el), _, _, rfl, rfl, hL, ?_⟩
  have a0 := Int.emod_nonneg (n / 12) (show ((rows.map V.str).length : Int) ≠ 0 by omega)
  have a1 := Int.emod_lt_of_pos (n / 12) hL
  have b0 := Int.emod_nonneg m (show ((rows.map V.str).length : Int) ≠ 0 by omega)
  have b1 := Int.emod_lt_of_pos m hL
  show tMid _ _ _ _ _
  dsimp only
  generalize n / 12 % ((rows.map V.str).length : Int) = ai at a0 a1 ⊢
  generalize m % ((rows.map V.str).length : Int) = bi at b0 b1 ⊢
  rw [List.length_map] at a1 b1
  obtain ⟨i, rfl⟩ := Int.eq_ofNat_of_zero_le a0
  obtain ⟨j, rfl⟩ := Int.eq_ofNat_of_zero_le b0
  have hi : i < rows.length := by omega
  have hj : j < rows.length := by omega
  obtain ⟨ri, hri⟩ : ∃ r, rows[i]? = some r := ⟨_, List.getElem?_eq_getElem hi⟩
  obtain ⟨rj, hrj⟩ : ∃ r, rows[j]? = some r := ⟨_, List.getElem?_eq_getElem hj⟩
  have hat : atI (rows.map V.str) (i : Int) = some (.str ri) := atI_nat (by rw [List.getElem?_map, hri]; rfl)
  have hbt : atI (rows.map V.str) (j : Int) = some (.str rj) := atI_nat (by rw [List.getElem?_map, hrj]; rfl)
  have lri := rk.ea ri (List.mem_of_getElem? hri)
  have lrj := rk.ea rj (List.mem_of_getElem? hrj)
  have hsm := rk.sm
  have n0 := Int.emod_nonneg n (show (12 : Int) ≠ 0 by decide)
  have n1 := Int.emod_lt_of_pos n (show (0 : Int) < 12 by decide)
  refine ⟨fun σ' H' => ∃ rows' x5 x6, σ' = [some (.ref l), some (.int n), some (.int m), some (.int (i : Int)), some (.int (j : Int)), x5, x6] ∧ Same H H' ∧ H' l = some (.lst (rows'.map V.str)) ∧ (rows' = rows ∨ (n % 12 ≤ 7 ∧ Rws 47 3800 1100 rows')), ?_, ?_⟩
  · refine ⟨_, rfl, _, _, rfl, rfl, pz, rfl, _, rfl, iteDd (fun c => ?_) (fun c => ⟨rows, _, _, rfl, g1, el, .inl rfl⟩)⟩
    have c : n % 12 = 7 := by injection c
    refine ⟨_, rfl, .inl ⟨rfl, _, SqL.of el⟩, _, rfl, _, rfl, _, rfl, l, _, _, .str ri, rfl, rfl, SqL.of el, hat, l, _, _, _, rfl, rfl, el, ⟨by omega, by omega⟩, szl' (by rw [List.length_map]; omega), ?_⟩
    refine ⟨rows.take (insAt (rows.map V.str).length j) ++ ri :: rows.drop (insAt (rows.map V.str).length j), _, _, rfl, same_updN g1 hl, ?_, .inr ⟨by omega, ?_⟩⟩
    · rw [upd_same, List.map_append, List.map_cons, List.map_take, List.map_drop]
    · refine ⟨fun z => ?_, ?_, by rw [sum_ins]; omega, fun r hr => ?_⟩
      · have := congrArg List.length z
        rw [List.length_append, List.length_cons] at this
        exact absurd this (by simp)
      · rw [List.length_append, List.length_cons, List.length_take, List.length_drop]; omega
      · rcases List.mem_append.mp hr with hr | hr
        · have := rk.ea r (List.mem_of_mem_take hr); omega
        · rcases List.mem_cons.mp hr with rfl | hr
          · omega
          · have := rk.ea r (List.mem_of_mem_drop hr); omega
  rintro _ H2 ⟨rows', x5, x6, rfl, g2, el2, hc⟩
  refine ⟨fun σ' H' => ∃ rows' x5 x6, σ' = [some (.ref l), some (.int n), some (.int m), some (.int (i : Int)), some (.int (j : Int)), x5, x6] ∧ Same H H' ∧ H' l = some (.lst (rows'.map V.str)) ∧ (rows' = rows ∨ (n % 12 ≤ 8 ∧ Rws 47 3800 1100 rows')), ?_, ?_⟩
  · refine ⟨_, rfl, _, _, rfl, rfl, pz, rfl, _, rfl, iteDd (fun c => ?_) (fun c => ⟨rows', _, _, rfl, g2, el2, hc.imp id (fun z => ⟨by omega, z.2⟩)⟩)⟩
    have c : n % 12 = 8 := by injection c
    have er : rows' = rows := hc.elim id (fun z => absurd z.1 (by omega))
    rw [er] at el2
    refine ⟨_, rfl, _, rfl, l, _, _, .str rj, rfl, rfl, SqL.of el2, hbt, _, rfl, _, rfl, l, _, _, .str ri, rfl, rfl, SqL.of el2, hat, (by show 2 ≤ sizeLine; decide), fun tt htt => ?_⟩
    have kt := same_new htt (.tup [V.str rj, V.str ri])
    have et := upd_same (H := H2) (a := tt) (o := .tup [V.str rj, V.str ri])
    have el3 := kt _ _ el2
    have g3 := g2.trans kt
    generalize upd H2 tt (.tup [V.str rj, V.str ri]) = H3 at et el3 g3 ⊢
    refine ⟨tt, _, rfl, SqT.of et, rfl, _, _, rfl, _, rfl, _, rfl, l, _, _, i, rfl, rfl, el3, (by rw [List.length_map]; exact ixN_ok hi), _, _, rfl, _, rfl, _, rfl, l, _, _, j, rfl, rfl, upd_same, (by rw [List.length_set, List.length_map]; exact ixN_ok hj), rfl, ?_⟩
    refine ⟨(rows.set i rj).set j ri, _, _, rfl, same_updN (same_updN g3 hl) hl, by rw [← map_set, ← map_set]; exact upd_same, .inr ⟨by omega, ?_⟩⟩
    refine ⟨set_ne (set_ne rk.l0), by rw [List.length_set, List.length_set]; omega, ?_, set_all (set_all (fun r hr => by have := rk.ea r hr; omega) (by omega)) (by omega)⟩
    have s1 := set_sumE (x := rj) rows i hri
    have hj2 : (rows.set i rj)[j]? = some rj := by
      by_cases e : i = j
      · rw [e, List.getElem?_set_self hj]
      · rw [List.getElem?_set_ne e]; exact hrj
    have s2 := set_sumE (x := ri) (rows.set i rj) j hj2
    omega
  rintro _ H3 ⟨rows'', x5, x6, rfl, g3, el3, hc⟩
  refine ⟨fun σ' H' => ∃ rows' x5 x6, σ' = [some (.ref l), some (.int n), some (.int m), some (.int (i : Int)), some (.int (j : Int)), x5, x6] ∧ Same H H' ∧ H' l = some (.lst (rows'.map V.str)) ∧ (rows' = rows ∨ (n % 12 ≤ 10 ∧ Rws 47 3800 1100 rows')), ?_, ?_⟩
  · refine ⟨fun b H' => H3 = H' ∧ (b = true ↔ (n % 12 = 9 ∨ n % 12 = 10)), ?_, ?_⟩
    · refine ⟨_, rfl, _, _, rfl, rfl, pz, rfl, _, rfl, iteDd (fun c => ?_) (fun c => ?_)⟩
      · have c : n % 12 = 9 := by injection c
        exact ⟨rfl, fun _ => .inl c, fun _ => rfl⟩
      · refine ⟨_, rfl, _, _, rfl, rfl, pz, rfl, _, rfl, rfl, fun z => ?_, fun z => ?_⟩
        · have z := of_decide_eq_true z
          injection z with z
          exact .inr z
        · refine decide_eq_true ?_
          rcases z with z | z
          · exact absurd (by show V.int (n % 12) = _; rw [z]) c
          · show V.int (n % 12) = _; rw [z]
    rintro b _ ⟨rfl, hb⟩
    cases b with
    | false => exact iteF ⟨rows'', _, _, rfl, g3, el3, hc.imp id (fun z => ⟨by omega, z.2⟩)⟩
    | true =>
    have c := hb.mp rfl
    have er : rows'' = rows := hc.elim id (fun z => absurd z.1 (by omega))
    rw [er] at el3
    have e0 : Txt.split ri ⟨#[32]⟩ = spl ri := rfl
    have hm := spl_many ri
    refine iteT ⟨_, rfl, _, rfl, l, _, _, .str ri, rfl, rfl, SqL.of el3, hat, rfl, _, 32, rfl, by rw [sp_eq], by omega, by rw [e0]; omega, fun lw hlw => ?_⟩
    rw [e0]
    have kw := same_new hlw (.lst ((spl ri).map V.str))
    have ew := upd_same (H := H3) (a := lw) (o := .lst ((spl ri).map V.str))
    have lne : l ≠ lw := ne_of_none el3 hlw
    have hlwH : H lw = none := g3.free hlw
    have el4 := kw _ _ el3
    have g4 := g3.trans kw
    generalize upd H3 lw (.lst ((spl ri).map V.str)) = H4 at ew el4 g4 ⊢
    refine ⟨szl (by simp), fun lo hlo => ?_⟩
    have ko := same_new hlo (.lst (odds.map V.str))
    have eo := upd_same (H := H4) (a := lo) (o := .lst (odds.map V.str))
    have ew := ko _ _ ew
    have el4 := ko _ _ el4
    have g4 := g4.trans ko
    change tSeq _ _ _ _ (upd H4 lo (.lst (odds.map V.str)))
    generalize upd H4 lo (.lst (odds.map V.str)) = H5 at ew eo el4 g4 ⊢
    obtain ⟨o, ho, hom⟩ := at_mem (xs := odds) (i := m / 1000 % 16) (by omega) (by show m / 1000 % 16 < 16; omega)
    have hol := odds_len o hom
    have hp0 : 0 < (spl ri).length := List.length_pos_iff.mpr (spl_ne ri)
    have hpL : 0 < (((spl ri).map V.str).length : Int) := by rw [List.length_map]; omega
    have d0 := Int.emod_nonneg (m / 100) (show (((spl ri).map V.str).length : Int) ≠ 0 by omega)
    have d1 := Int.emod_lt_of_pos (m / 100) hpL
    obtain ⟨jj, hjj⟩ := Int.eq_ofNat_of_zero_le d0
    have hjl : jj < ((spl ri).map V.str).length := by omega
    refine ⟨_, rfl, _, rfl, _, _, rfl, rfl, ⟨by decide, by decide⟩, _, _, rfl, rfl, pz, lo, _, _, .str o, rfl, rfl, SqL.of eo, atI_map ho, _, rfl, _, rfl, _, _, rfl, rfl, ⟨by decide, by decide⟩, _, rfl, lw, _, rfl, .inl (SqL.of ew), _, _, rfl, rfl, hpL, lw, _, _, jj, rfl, rfl, ew, (by show ixN _ (m / 100 % (((spl ri).map V.str).length : Int)) = _; rw [hjj]; exact ixN_ok hjl), ?_⟩
    rw [map_set]
    have ew6 := upd_same (H := H5) (a := lw) (o := .lst (((spl ri).set jj o).map V.str))
    have el6 : upd H5 lw (.lst (((spl ri).set jj o).map V.str)) l = some (.lst (rows.map V.str)) := by rw [upd_ne lne]; exact el4
    have g6 := same_updN (o := .lst (((spl ri).set jj o).map V.str)) g4 hlwH
    generalize upd H5 lw (.lst (((spl ri).set jj o).map V.str)) = H6 at ew6 el6 g6 ⊢
    have hsp := spl_sum ri
    have hsp2 : ((spl ri).map (·.length)).sum + (spl ri).length ≤ ri.length + 1 := by rw [sum_succ] at hsp; exact hsp
    have hss := set_sum (i := jj) (x := o) (spl ri) jj
    refine ⟨rfl, _, rfl, Str.ofString " ", lw, (spl ri).set jj o, rfl, rfl, SqL.of ew6, ?_, ?_⟩
    · have e1 : (Str.ofString " ").length = 1 := by decide +kernel
      rw [e1, List.length_set]; omega
    have hjn := join_sp ((spl ri).set jj o)
    rw [List.length_set] at hjn
    generalize Txt.join (Str.ofString " ") ((spl ri).set jj o) = nr at hjn ⊢
    refine ⟨_, rfl, _, rfl, l, _, _, i, rfl, rfl, el6, (by rw [List.length_map]; exact ixN_ok hi), ?_⟩
    have s1 := set_sumE (x := nr) rows i hri
    exact ⟨rows.set i nr, _, _, rfl, same_updN g6 hl, by rw [← map_set]; exact upd_same, .inr ⟨by omega, set_ne rk.l0, by rw [List.length_set]; omega, by omega, set_all (fun r hr => by have := rk.ea r hr; omega) (by omega)⟩⟩
  rintro _ H4 ⟨rows3, x5, x6, rfl, g4, el4, hc⟩
  refine ⟨fun σ' H' => ∃ rows' x5 x6, σ' = [some (.ref l), some (.int n), some (.int m), some (.int (i : Int)), some (.int (j : Int)), x5, x6] ∧ Same H H' ∧ H' l = some (.lst (rows'.map V.str)) ∧ (rows' = rows ∨ (n % 12 ≤ 11 ∧ Rws 47 3800 1100 rows')), ?_, ?_⟩
  · refine ⟨_, rfl, _, _, rfl, rfl, pz, rfl, _, rfl, iteDd (fun c => ?_) (fun c => ⟨rows3, _, _, rfl, g4, el4, hc.imp id (fun z => ⟨by omega, z.2⟩)⟩)⟩
    have c : n % 12 = 11 := by injection c
    have er : rows3 = rows := hc.elim id (fun z => absurd z.1 (by omega))
    rw [er] at el4
    refine ⟨szl (by simp), fun lp hlp => ?_⟩
    have kp := same_new hlp (.lst [V.str "a", V.str " 3", V.str "aa 3", V.str "abcdefghij 3", V.str "bab 9", V.str "a 200", V.str "a 201", V.str "a 3 ", V.str "a  3", V.str "ba 12"])
    have el5 := kp _ _ el4
    have g5 := g4.trans kp
    refine ⟨_, rfl, _, _, rfl, rfl, pz, lp, _, _, rfl, rfl, SqL.of upd_same, by omega, (by show m % 10 < 10; omega), (fun v => ∃ o : Str, v = .str o ∧ o.length ≤ 12), ?_, ?_⟩
    · intro v hv
      simp only [List.mem_cons, List.not_mem_nil, or_false] at hv
      rcases hv with rfl | rfl | rfl | rfl | rfl | rfl | rfl | rfl | rfl | rfl <;> exact ⟨_, rfl, by decide +kernel⟩
    rintro _ ⟨o, rfl, ho⟩
    refine ⟨_, rfl, l, _, _, 0, rfl, rfl, el5, (by rw [List.length_map]; exact ixN_ok (j := 0) hl0), ?_⟩
    have hs := set_sum (i := 0) (x := o) rows 0
    exact ⟨rows.set 0 o, _, _, rfl, same_updN g5 hl, by rw [← map_set]; exact upd_same, .inr ⟨by omega, set_ne rk.l0, by rw [List.length_set]; omega, by omega, set_all (fun r hr => by have := rk.ea r hr; omega) (by omega)⟩⟩
  rintro _ H5 ⟨rows4, x5, x6, rfl, g5, el5, hc⟩
  refine ⟨_, rfl, q l rows4 _ g5 el5 (hc.elim (fun z => by rw [z]; exact rk.weak) (fun z => z.2))⟩

theorem sc_law_long : FnScope ["_law_rows", "_law_more", "_law_at", "_law_words", "_law_place"] ["_law_rows", "_law_more"] (defScope s_law_long) := ⟨rfl, rfl, rfl, by decide +kernel, rfl, by decide +kernel, by decide +kernel⟩
theorem ok_law_long (B : Bi mg) {c_ScribeError c_NoWay c_NoRoom c_NotPlain c_OtherSigns c_TooMany c_TwoWays c_NeverPlain c_NoText : Addr} (XB : Xb K mg c_ScribeError c_NoWay c_NoRoom c_NotPlain c_OtherSigns c_TooMany c_TwoWays c_NeverPlain c_NoText)  {f : Addr} {fd : FuncData} (F : Fun K "_law_long" "_law_long" s_law_long f fd) : FnOk P w K mg base CX0 1 f fd ["_law_rows", "_law_more"] (spLong K) := by
  refine F.ok sc_law_long (fun vs H Q E h => ?_) (fun cdv A outer s H vs Q E hr h => ?_)
  · obtain ⟨p, s, n, rfl, _⟩ := h; rfl
  obtain ⟨p, s, n, rfl, hp, ok, h1, hn0, hn1, q⟩ := h
  refine ⟨_, (pss_cons (ps_set (i := 0) sc_law_long.nd rfl (Or.inl rfl) (pe_callTy (kCall (K := K) rLo call_list_of) (by rfl) B.list bt_list (pa_cons (pv 0) pa_nil)))
      (pss_cons (ps_set (i := 2) sc_law_long.nd rfl (Or.inl rfl) (pe_op op_add pe_int (pe_op op_mod (pv 1) (pe_op op_sub (pe_callB (kLen (K := K)) (by rfl) B.len bt_len (pa_cons (pv 0) pa_nil)) pe_int))))
      (pss_cons (ps_set (i := 3) sc_law_long.nd rfl (Or.inl rfl) (kPE (K := K) (fun k => tBM k _ _ _ _) (pe_bm PySem.F.plainAttrs_str PySem.F.slot_str_split PySem.F.type_str_split mt_split (pe_ix (kIx (K := K) rIxL ix_list) (pv 0) (pv 2) (by intro _ _; rfl)) (pa_cons pe_str pa_nil))))
      (pss_cons (ps_set (i := 4) sc_law_long.nd rfl (Or.inl rfl) (pe_ix (kIx (K := K) rIxL ix_list) (pe_lst (pa_cons pe_int (pa_cons pe_int pa_nil))) (pe_callTy call_int1 (by rfl) B.int bt_int (pa_cons (pe_cmpR op_eq (pe_ix (kIx (K := K) rIxL ix_list) (pv 3) pe_int (by intro _ _; rfl)) pe_str (nomark _)) pa_nil)) (by intro _ _; rfl)))
      (pss_cons (ps_asg (pe_op op_mul_str pe_str (pe_op op_add pe_int (pe_op op_mod (pe_op op_fdiv (pv 1) pe_int) pe_int))) (pg_sub (pv 3) (pv 4) set_list))
      (pss_cons (ps_asg (kPE (K := K) (fun k => tBM k _ _ _ _) (pe_bm PySem.F.plainAttrs_str PySem.F.slot_str_join PySem.F.type_str_join mt_join pe_str (pa_cons (pv 3) pa_nil))) (pg_sub (pv 0) (pv 2) set_list))
      (pss_one (ps_ret (pv 0))))))))), ?_⟩
  have rk := rows_rws ok
  refine ⟨_, rfl, p, _, rfl, .inl hp, fun l hl => ?_⟩
  have g1 := same_new hl (.lst ((rowsOf s).map V.str))
  have el := upd_same (H := H) (a := l) (o := .lst ((rowsOf s).map V.str))
  generalize upd H l (.lst ((rowsOf s).map V.str)) = H1 at g1 el ⊢
  have hl1 := h1
  have hL : 0 < (((rowsOf s).map V.str).length : Int) - 1 := by rw [List.length_map]; omega
  refine ⟨_, rfl, _, rfl, l, _, rfl, .inl (SqL.of el), _, _, rfl, rfl, _, _, rfl, rfl, hL, _, _, rfl, rfl, ?_⟩
  have a0 := Int.emod_nonneg n (show (((rowsOf s).map V.str).length : Int) - 1 ≠ 0 by omega)
  have a1 := Int.emod_lt_of_pos n hL
  generalize n % ((((rowsOf s).map V.str).length : Int) - 1) = j at a0 a1 ⊢
  rw [List.length_map] at a1
  obtain ⟨i, rfl⟩ := Int.eq_ofNat_of_zero_le a0
  have hi : 1 + i < (rowsOf s).length := by omega
  obtain ⟨row, hrow⟩ : ∃ row, (rowsOf s)[1 + i]? = some row := ⟨_, List.getElem?_eq_getElem hi⟩
  have hix : ixN ((rowsOf s).map V.str).length (1 + (i : Int)) = some (1 + i) := by
    rw [List.length_map, show (1 + (i : Int)) = ((1 + i : Nat) : Int) by omega]
    exact ixN_ok hi
  have hat : atI ((rowsOf s).map V.str) (1 + (i : Int)) = some (.str row) := by
    rw [show (1 + (i : Int)) = ((1 + i : Nat) : Int) by omega]
    exact atI_nat (by rw [List.getElem?_map, hrow]; rfl)
  have el1 := el
  have hrl := rk.ea row (List.mem_of_getElem? hrow)
  have e0 : Txt.split row ⟨#[32]⟩ = spl row := rfl
  have hm := spl_many row
  refine ⟨_, rfl, _, rfl, l, _, _, .str row, rfl, rfl, SqL.of el, hat, rfl, _, 32, rfl, by rw [sp_eq], by omega, by rw [e0]; omega, fun lw hlw => ?_⟩
  rw [e0]
  have k2 := same_new hlw (.lst ((spl row).map V.str))
  have ew := upd_same (H := H1) (a := lw) (o := .lst ((spl row).map V.str))
  have el := k2 _ _ el
  have g2 := g1.trans k2
  generalize upd H1 lw (.lst ((spl row).map V.str)) = H2 at g2 ew el ⊢
  rcases tail_row ok hrow with ⟨k, a, y, es, hk, hkl, hal⟩ | ⟨a, y, y2, b, es, hal, hyl, hbl⟩
  · rw [es] at ew
    refine ⟨szl (by simp), fun l3 hl3 => ?_⟩
    have k3 := same_new hl3 (.lst [V.int 2, V.int 3])
    have ew := k3 _ _ ew
    have el := k3 _ _ el
    refine ⟨_, rfl, lw, _, _, .str k, rfl, rfl, SqL.of ew, rfl, rfl, .inr ⟨_, rfl, ?_⟩⟩
    rw [decide_eq_false (fun z => hk (by injection z))]
    have e3 := upd_same (H := H2) (a := l3) (o := .lst [V.int 2, V.int 3])
    have g3 := g2.trans k3
    have h3w : H lw = none := g1.free hlw
    generalize upd H2 l3 (.lst [V.int 2, V.int 3]) = H3 at g3 e3 ew el ⊢
    refine ⟨l3, _, _, .int 2, rfl, rfl, SqL.of e3, rfl, ?_⟩
    refine ⟨_, rfl, _, _, rfl, rfl, ⟨by decide, by decide⟩, _, _, rfl, rfl, pz, _, _, rfl, rfl, _, _, rfl, rfl, (by show 1 ≤ 1 + n / 64 % 100; omega), (by show 1 + n / 64 % 100 ≤ 1000; omega), by decide +kernel, ?_⟩
    have hbig : (Txt.mul (Str.ofString "abcab") (1 + n / 64 % 100)).length ≤ 500 := by
      have := mul_len (Str.ofString "abcab") (1 + n / 64 % 100) (by omega)
      have e5 : (Str.ofString "abcab").length = 5 := by decide +kernel
      rw [e5] at this
      omega
    generalize Txt.mul (Str.ofString "abcab") (1 + n / 64 % 100) = big at hbig ⊢
    refine ⟨_, rfl, _, rfl, lw, _, _, 2, rfl, rfl, ew, rfl, ?_⟩
    have lne : l ≠ lw := ne_of_none el1 hlw
    have g4 := same_updN (o := .lst ([k, a, big].map V.str)) g3 h3w
    have ew4 := upd_same (H := H3) (a := lw) (o := .lst ([k, a, big].map V.str))
    have el4 : upd H3 lw (.lst ([k, a, big].map V.str)) l = some (.lst ((rowsOf s).map V.str)) := by rw [upd_ne lne]; exact el
    refine ⟨rfl, _, rfl, Str.ofString " ", lw, [k, a, big], rfl, rfl, SqL.of ew4, ?_, ?_⟩
    · have e1 : (Str.ofString " ").length = 1 := by decide +kernel
      simp only [List.map_cons, List.map_nil, List.sum_cons, List.sum_nil, List.length_cons, List.length_nil, e1]
      omega
    have hj := join_sp [k, a, big]
    have hj : (Txt.join (Str.ofString " ") [k, a, big]).length ≤ 516 := by
      simp only [List.map_cons, List.map_nil, List.sum_cons, List.sum_nil, List.length_cons, List.length_nil] at hj
      omega
    generalize Txt.join (Str.ofString " ") [k, a, big] = nr at hj ⊢
    refine ⟨_, rfl, _, rfl, l, _, _, 1 + i, rfl, rfl, el4, hix, _, rfl, q l ((rowsOf s).set (1 + i) nr) _ (same_updN g4 hl) (by rw [← map_set]; exact upd_same) ?_ ?_⟩
    · have hs := set_sum (i := 1 + i) (x := nr) (rowsOf s) (1 + i)
      refine ⟨fun z => rk.l0 ?_, by rw [List.length_set]; exact rk.l1, by have := rk.sm; omega, fun x hx => ?_⟩
      · have := congrArg List.length z
        rw [List.length_set] at this
        exact List.length_eq_zero_iff.mp this
      · rcases List.mem_or_eq_of_mem_set hx with hx | hx
        · have := rk.ea x hx; omega
        · rw [hx]; omega
    · refine ⟨row0 s, ?_, row0_pos ok⟩
      rw [rows_cons, show 1 + i = i + 1 by omega, List.set_cons_succ]
      exact List.mem_cons_self ..
  · rw [es] at ew
    refine ⟨szl (by simp), fun l3 hl3 => ?_⟩
    have k3 := same_new hl3 (.lst [V.int 2, V.int 3])
    have ew := k3 _ _ ew
    have el := k3 _ _ el
    refine ⟨_, rfl, lw, _, _, .str (Str.ofString "step"), rfl, rfl, SqL.of ew, rfl, rfl, .inr ⟨_, rfl, ?_⟩⟩
    rw [decide_eq_true rfl]
    have e3 := upd_same (H := H2) (a := l3) (o := .lst [V.int 2, V.int 3])
    have g3 := g2.trans k3
    have h3w : H lw = none := g1.free hlw
    generalize upd H2 l3 (.lst [V.int 2, V.int 3]) = H3 at g3 e3 ew el ⊢
    refine ⟨l3, _, _, .int 3, rfl, rfl, SqL.of e3, rfl, ?_⟩
    refine ⟨_, rfl, _, _, rfl, rfl, ⟨by decide, by decide⟩, _, _, rfl, rfl, pz, _, _, rfl, rfl, _, _, rfl, rfl, (by show 1 ≤ 1 + n / 64 % 100; omega), (by show 1 + n / 64 % 100 ≤ 1000; omega), by decide +kernel, ?_⟩
    have hbig : (Txt.mul (Str.ofString "abcab") (1 + n / 64 % 100)).length ≤ 500 := by
      have := mul_len (Str.ofString "abcab") (1 + n / 64 % 100) (by omega)
      have e5 : (Str.ofString "abcab").length = 5 := by decide +kernel
      rw [e5] at this
      omega
    generalize Txt.mul (Str.ofString "abcab") (1 + n / 64 % 100) = big at hbig ⊢
    refine ⟨_, rfl, _, rfl, lw, _, _, 3, rfl, rfl, ew, rfl, ?_⟩
    have lne : l ≠ lw := ne_of_none el1 hlw
    have g4 := same_updN (o := .lst ([Str.ofString "step", a, y, big, b].map V.str)) g3 h3w
    have ew4 := upd_same (H := H3) (a := lw) (o := .lst ([Str.ofString "step", a, y, big, b].map V.str))
    have el4 : upd H3 lw (.lst ([Str.ofString "step", a, y, big, b].map V.str)) l = some (.lst ((rowsOf s).map V.str)) := by rw [upd_ne lne]; exact el
    refine ⟨rfl, _, rfl, Str.ofString " ", lw, [Str.ofString "step", a, y, big, b], rfl, rfl, SqL.of ew4, ?_, ?_⟩
    · have e1 : (Str.ofString " ").length = 1 := by decide +kernel
      simp only [List.map_cons, List.map_nil, List.sum_cons, List.sum_nil, List.length_cons, List.length_nil, e1]
      have e4 : (Str.ofString "step").length = 4 := by decide +kernel
      omega
    have hj := join_sp [Str.ofString "step", a, y, big, b]
    have hj : (Txt.join (Str.ofString " ") [Str.ofString "step", a, y, big, b]).length ≤ 516 := by
      simp only [List.map_cons, List.map_nil, List.sum_cons, List.sum_nil, List.length_cons, List.length_nil] at hj
      have e4 : (Str.ofString "step").length = 4 := by decide +kernel
      omega
    generalize Txt.join (Str.ofString " ") [Str.ofString "step", a, y, big, b] = nr at hj ⊢
    refine ⟨_, rfl, _, rfl, l, _, _, 1 + i, rfl, rfl, el4, hix, _, rfl, q l ((rowsOf s).set (1 + i) nr) _ (same_updN g4 hl) (by rw [← map_set]; exact upd_same) ?_ ?_⟩
    · have hs := set_sum (i := 1 + i) (x := nr) (rowsOf s) (1 + i)
      refine ⟨fun z => rk.l0 ?_, by rw [List.length_set]; exact rk.l1, by have := rk.sm; omega, fun x hx => ?_⟩
      · have := congrArg List.length z
        rw [List.length_set] at this
        exact List.length_eq_zero_iff.mp this
      · rcases List.mem_or_eq_of_mem_set hx with hx | hx
        · have := rk.ea x hx; omega
        · rw [hx]; omega
    · refine ⟨row0 s, ?_, row0_pos ok⟩
      rw [rows_cons, show 1 + i = i + 1 by omega, List.set_cons_succ]
      exact List.mem_cons_self ..

theorem sc_law_number : FnScope ["_law_text", "_law_number_here", "_law_sign"] ["_law_text"] (defScope s_law_number) := ⟨rfl, rfl, rfl, by decide +kernel, rfl, by decide +kernel, by decide +kernel⟩
theorem ok_law_number (B : Bi mg) {c_ScribeError c_NoWay c_NoRoom c_NotPlain c_OtherSigns c_TooMany c_TwoWays c_NeverPlain c_NoText : Addr} (XB : Xb K mg c_ScribeError c_NoWay c_NoRoom c_NotPlain c_OtherSigns c_TooMany c_TwoWays c_NeverPlain c_NoText)  {f : Addr} {fd : FuncData} (F : Fun K "_law_number" "_law_number" s_law_number f fd) : FnOk P w K mg base CX0 1 f fd ["_law_text"] (spLNum) := by
  refine F.ok sc_law_number (fun vs H Q E h => ?_) (fun cdv A outer s H vs Q E hr h => ?_)
  · obtain ⟨x, rfl, _⟩ := h; rfl
  obtain ⟨x, rfl, hx, q⟩ := h
  refine ⟨_, (pss_cons (ps_if (pt_abs (PW.pt (pw_or (pt_cmpR op_eq (pv 0) pe_str (nomark _)) (pw_or (pt_cmpR op_gt (pe_callB call_len_str (by rfl) B.len bt_len (pa_cons (pv 0) pa_nil)) pe_int (nomark _)) (pw_or1 (PW.pt (pw_and (pt_cmpR op_gt (pe_callB call_len_str (by rfl) B.len bt_len (pa_cons (pv 0) pa_nil)) pe_int (nomark _)) (pw_and1 (pt_cmpR op_eq (pe_ix ix_str (pv 0) pe_int (by intro _ _; rfl)) pe_str (nomark _)))))))))) (pss_one (ps_ret (pe_un un_neg pe_int))) pss_nil)
      (pss_cons (ps_set (i := 1) sc_law_number.nd rfl (Or.inl rfl) pe_int)
      (pss_cons (ps_for PassesOwn.never (by rfl) (pi_str (pv 0)) (pg_name (i := 2) sc_law_number.nd rfl (Or.inl rfl)) (pss_cons (ps_if (pt_cmpR op_notIn_str (pv 2) pe_str rfl) (pss_one (ps_ret (pe_un un_neg pe_int))) pss_nil)
      (pss_one (ps_set (i := 1) sc_law_number.nd rfl (Or.inl rfl) (pe_op op_add (pe_op op_mul (pv 1) pe_int) (kPE (K := K) (fun k => tBM k _ _ _ _) (pe_bm PySem.F.plainAttrs_str PySem.F.slot_str_index PySem.F.type_str_index mt_idxS pe_str (pa_cons (pv 2) pa_nil))))))))
      (pss_one (ps_ret (pv 1)))))), ?_⟩
  refine ⟨fun b H' => H = H' ∧ (b = true ↔ (x.length = 0 ∨ 3 < x.length ∨ (1 < x.length ∧ (cl x).head? = some 48))), ?_, ?_⟩
  · refine ⟨_, rfl, rfl, _, rfl, iteDd (fun c => ?_) (fun c => ?_)⟩
    · have e : x = Str.ofString "" := by injection c
      exact ⟨rfl, fun _ => .inl (str_nil.mp e), fun _ => rfl⟩
    have c0 : x.length ≠ 0 := fun z => c (by rw [str_nil.mpr z])
    refine ⟨_, rfl, x, rfl, szl (by omega), _, _, rfl, rfl, _, rfl, iteDd (fun c3 => ?_) (fun c3 => ?_)⟩
    · exact ⟨rfl, fun _ => .inr (.inl (by omega)), fun _ => rfl⟩
    refine ⟨_, rfl, x, rfl, szl (by omega), _, _, rfl, rfl, _, rfl, iteDd (fun c1 => ?_) (fun c1 => ?_)⟩
    · obtain ⟨c, hc, hm⟩ := at_some (xs := cl x) (i := 0) (by decide) (by rw [cl_length]; omega)
      refine ⟨_, rfl, x, _, c, rfl, rfl, szl (by omega), hc, rfl, _, rfl, ?_⟩
      have hh : (cl x).head? = some c := by rw [List.head?_eq_getElem?]; exact hm
      refine ⟨rfl, fun z => .inr (.inr ⟨by omega, ?_⟩), fun z => ?_⟩
      · have z := of_decide_eq_true z
        rw [zero_eq] at z
        injection z with z
        rw [hh, one_inj.mp z]
      · rcases z with z | z | z
        · exact absurd z c0
        · omega
        · rw [hh] at z
          refine decide_eq_true ?_
          rw [zero_eq, Option.some.inj z.2]
    · exact ⟨rfl, fun z => absurd z Bool.false_ne_true, fun z => by omega⟩
  rintro b _ ⟨rfl, hb⟩
  cases b with
  | true =>
    rw [numL_bad (hb.mp rfl)] at q
    exact iteT ⟨_, rfl, q⟩
  | false =>
  refine iteF ?_
  have ng : ¬ (x.length = 0 ∨ 3 < x.length ∨ (1 < x.length ∧ (cl x).head? = some 48)) := fun z => Bool.false_ne_true (hb.mpr z)
  have hl3 : x.length ≤ 3 := by omega
  refine ⟨_, rfl, _, rfl, ?_⟩
  refine for_str (fun i σ H' => H = H' ∧ i ≤ 3 ∧ (∀ c ∈ (cl x).take i, 48 ≤ c ∧ c ≤ 57) ∧ NumText.digitsVal ((cl x).take i) < 10 ^ i ∧ ∃ x2, σ = [some (.str x), some (.int ((NumText.digitsVal ((cl x).take i) : Nat) : Int)), x2]) ⟨rfl, Nat.zero_le _, (fun c hc => by rw [List.take_zero] at hc; cases hc), (by rw [List.take_zero]; decide), _, rfl⟩ ?_ ?_
  · rintro i c σ _ hc ⟨rfl, hi, hd, hlt, x2, rfl⟩
    have hc : (cl x)[i]? = some c := hc
    have hil : i < (cl x).length := (List.getElem?_eq_some_iff.mp hc).1
    rw [cl_length] at hil
    refine ⟨_, rfl, _, _, rfl, rfl, _, rfl, ?_⟩
    rw [StrLaws.found_one, fig_dec]
    cases e : (decide (48 ≤ c) && decide (c ≤ 57)) with
    | false =>
      refine iteT ?_
      have : digB x = false := by
        cases ed : digB x with
        | false => rfl
        | true =>
          have := digB_iff.mp ed c (List.mem_of_getElem? hc)
          rw [decide_eq_true this.1, decide_eq_true this.2] at e; cases e
      rw [numL_dig this] at q
      exact ⟨_, rfl, q⟩
    | true =>
      rw [Bool.and_eq_true, decide_eq_true_eq, decide_eq_true_eq] at e
      refine iteF ?_
      have hp : 10 ^ i ≤ 10 ^ 2 := Nat.pow_le_pow_right (by decide) (by omega)
      refine ⟨_, rfl, _, _, rfl, rfl, .inl ⟨by omega, by omega⟩, rfl, _, rfl, c, rfl, rfl, e.1, e.2, _, _, rfl, rfl, rfl, by omega, ?_, ?_, some (.str ⟨#[c]⟩), ?_⟩
      · rw [take_get hc]; exact all_snoc hd e
      · rw [take_get hc, val_snoc, Nat.pow_succ]; omega
      · rw [take_get hc, val_snoc, Int.natCast_add, Int.natCast_mul]; rfl
  rintro σ _ ⟨rfl, hi, hd, hlt, x2, rfl⟩
  rw [show List.take x.cps.toList.length (cl x) = cl x from List.take_length] at *
  rw [numL_good ng (digB_iff.mpr hd)] at q
  exact ⟨_, rfl, q⟩

theorem sc_law_letters : FnScope ["_law_text"] ["_law_text"] (defScope s_law_letters) := ⟨rfl, rfl, rfl, by decide +kernel, rfl, by decide +kernel, by decide +kernel⟩
theorem ok_law_letters (B : Bi mg) {c_ScribeError c_NoWay c_NoRoom c_NotPlain c_OtherSigns c_TooMany c_TwoWays c_NeverPlain c_NoText : Addr} (XB : Xb K mg c_ScribeError c_NoWay c_NoRoom c_NotPlain c_OtherSigns c_TooMany c_TwoWays c_NeverPlain c_NoText)  {f : Addr} {fd : FuncData} (F : Fun K "_law_letters" "_law_letters" s_law_letters f fd) : FnOk P w K mg base CX0 1 f fd ["_law_text"] (spLet) := by
  refine F.ok sc_law_letters (fun vs H Q E h => ?_) (fun cdv A outer s H vs Q E hr h => ?_)
  · obtain ⟨x, rfl, _⟩ := h; rfl
  obtain ⟨x, rfl, hx, q⟩ := h
  refine ⟨_, (pss_one (ps_ret (pe_cmpR op_eq (pe_callB (kLen (K := K)) (by rfl) B.len bt_len (pa_cons (pe_comp rfl (blk_mk (N' := ["_law_sign"]) (js := [none]) rfl (by decide +kernel) rfl (by decide +kernel) rfl rfl) (pi_str (pv 0)) (fun _ _ _ _ _ => (pg_name (i := 0) (show List.Nodup (["_law_sign"] : List Str) by decide +kernel) rfl (Or.inl rfl))) (fun _ _ _ _ _ => (pf_one (pt_cmpR op_notIn_str (pv 0) pe_str rfl))) (fun _ _ _ _ _ => (pv 0))) pa_nil)) pe_int (nomark _)))), ?_⟩
  refine ⟨_, rfl, _, rfl, ?_⟩
  refine comp_str (x := x) (fun i ys τ H' => H = H' ∧ (∃ x, τ = [x]) ∧ ys.length ≤ i ∧ i ≤ x.length ∧ ys = (((cl x).take i).filter fun c => !(decide (97 ≤ c) && decide (c ≤ 122))).map (fun c => V.str ⟨#[c]⟩)) ⟨rfl, ⟨_, rfl⟩, Nat.zero_le _, Nat.zero_le _, rfl⟩ ?_ ?_
  · rintro i c ys τ _ hc ⟨rfl, ⟨x0, rfl⟩, hy, hi, rfl⟩
    have hil : i < (cl x).length := (List.getElem?_eq_some_iff.mp hc).1
    rw [cl_length] at hil
    refine ⟨_, rfl, _, _, rfl, rfl, _, rfl, ?_⟩
    rw [StrLaws.found_one, abc_dec]
    cases e : (decide (97 ≤ c) && decide (c ≤ 122)) with
    | true =>
      refine iteF ⟨rfl, ⟨_, rfl⟩, by omega, by omega, ?_⟩
      rw [take_get hc, List.filter_append, List.filter_cons, e]
      simp
    | false =>
      refine iteT ⟨_, rfl, szl' (by omega), rfl, ⟨_, rfl⟩, by rw [List.length_append, List.length_singleton]; omega, by omega, ?_⟩
      rw [take_get hc, List.filter_append, List.filter_cons, e, List.map_append]
      rfl
  rintro ys τ _ ⟨rfl, _, hy, hi, rfl⟩ l hl
  rw [show List.take (cl x).length (cl x) = cl x from List.take_length]
  refine ⟨l, _, rfl, .inl (SqL.of upd_same), rfl, ?_⟩
  have e : decide (V.int ((((cl x).filter fun c => !(decide (97 ≤ c) && decide (c ≤ 122))).map (fun c => V.str ⟨#[c]⟩)).length : Int) = V.int ((0 : Nat) : Int)) = wordS x := by
    rw [nd_int, List.length_map, filt_nil]; rfl
  show Q (.bl (decide (V.int ((((cl x).filter fun c => !(decide (97 ≤ c) && decide (c ≤ 122))).map (fun c => V.str ⟨#[c]⟩)).length : Int) = V.int ((0 : Nat) : Int)))) _
  rw [e]
  exact q _ (same_new hl _)

theorem sc_law_pair : FnScope ["_law_words", "_law_rooms", "_law_room"] ["_law_words", "_law_rooms"] (defScope s_law_pair) := ⟨rfl, rfl, rfl, by decide +kernel, rfl, by decide +kernel, by decide +kernel⟩
theorem ok_law_pair (B : Bi mg) {c_ScribeError c_NoWay c_NoRoom c_NotPlain c_OtherSigns c_TooMany c_TwoWays c_NeverPlain c_NoText : Addr} (XB : Xb K mg c_ScribeError c_NoWay c_NoRoom c_NotPlain c_OtherSigns c_TooMany c_TwoWays c_NeverPlain c_NoText) (C_law_number : Cal P w K mg base "_law_number" ["_law_text"] 1 (spLNum)) (C_law_letters : Cal P w K mg base "_law_letters" ["_law_text"] 1 (spLet)) {f : Addr} {fd : FuncData} (F : Fun K "_law_pair" "_law_pair" s_law_pair f fd) : FnOk P w K mg base CX0 2 f fd ["_law_words", "_law_rooms"] (spPair K) := by
  refine F.ok sc_law_pair (fun vs H Q E h => ?_) (fun cdv A outer s H vs Q E hr h => ?_)
  · obtain ⟨p, a, y, r, rfl, _⟩ := h; rfl
  obtain ⟨p, a, y, r, rfl, hp, ha, hw, qn, qs⟩ := h
  refine ⟨_, (pss_cons (ps_set (i := 2) sc_law_pair.nd rfl (Or.inl rfl) (pe_fn C_law_number hr (by decide : 1 ≤ 1) (by rfl) (pa_cons (pe_ix (kIx (K := K) rIxL ix_list) (pv 0) pe_int (by intro _ _; rfl)) pa_nil)))
      (pss_cons (ps_if (pt_abs (PW.pt (pw_or (pt_cmpR op_lt (pv 2) pe_int (nomark _)) (pw_or (pt_cmpR op_ge (pv 2) (pv 1) (nomark _)) (pw_or1 (PW.pt (pw_and (pt_cmpR op_ne (pe_ix (kIx (K := K) rIxL ix_list) (pv 0) pe_int (by intro _ _; rfl)) pe_str (nomark _)) (pw_and1 (PW.pt (pw_or (pt_cmpR op_eq (pe_ix (kIx (K := K) rIxL ix_list) (pv 0) pe_int (by intro _ _; rfl)) pe_str (nomark _)) (pw_or1 (pt_not (pt_val (pe_fn C_law_letters hr (by decide : 1 ≤ 1) (by rfl) (pa_cons (pe_ix (kIx (K := K) rIxL ix_list) (pv 0) pe_int (by intro _ _; rfl)) pa_nil))))))))))))))) (pss_one (ps_ret pe_non)) pss_nil)
      (pss_one (ps_ret (pe_tup (pa_cons (pv 2) (pa_cons (kPE (K := K) (fun k => tBM k _ _ _ _) (pe_bm PySem.F.plainAttrs_str PySem.F.slot_str_strip PySem.F.type_str_strip mt_stripS (pe_ix (kIx (K := K) rIxL ix_list) (pv 0) pe_int (by intro _ _; rfl)) (pa_cons pe_str pa_nil))) pa_nil))))))), ?_⟩
  refine ⟨_, rfl, p, _, _, .str a, rfl, rfl, hp, rfl, a, rfl, ha, ?_⟩
  refine ⟨fun b H' => Same H H' ∧ (b = true ↔ (numL a < 0 ∨ r ≤ numL a ∨ (y ≠ "-" ∧ (y = "" ∨ wordS y = false)))), ?_, ?_⟩
  · refine ⟨_, rfl, _, _, rfl, rfl, _, rfl, iteDd (fun c => ?_) (fun c => ?_)⟩
    · exact ⟨Same.refl _, fun _ => .inl c, fun _ => rfl⟩
    refine ⟨_, rfl, _, rfl, _, _, rfl, rfl, _, rfl, iteDd (fun c2 => ?_) (fun c2 => ?_)⟩
    · exact ⟨Same.refl _, fun _ => .inr (.inl c2), fun _ => rfl⟩
    refine ⟨_, rfl, p, _, _, .str y, rfl, rfl, hp, rfl, rfl, _, rfl, iteNd (fun c3 => ?_) (fun c3 => ?_)⟩
    · have d3 : y ≠ "-" := fun z => c3 (by rw [z])
      refine ⟨_, rfl, p, _, _, .str y, rfl, rfl, hp, rfl, rfl, _, rfl, iteDd (fun c4 => ?_) (fun c4 => ?_)⟩
      · exact ⟨Same.refl _, fun _ => .inr (.inr ⟨d3, .inl (by injection c4)⟩), fun _ => rfl⟩
      have d4 : y ≠ "" := fun z => c4 (by rw [z])
      refine ⟨_, rfl, p, _, _, .str y, rfl, rfl, hp, rfl, y, rfl, hw, fun H1 g1 => ⟨_, rfl, ?_⟩⟩
      refine ⟨g1, fun z => .inr (.inr ⟨d3, .inr ?_⟩), fun z => ?_⟩
      · cases e : wordS y with
        | false => rfl
        | true => rw [e] at z; cases z
      · rcases z with z | z | ⟨_, z | z⟩
        · exact absurd z c
        · exact absurd z c2
        · exact absurd z d4
        · rw [z]; rfl
    · have d3 : y = "-" := by injection c3
      exact ⟨Same.refl _, fun z => absurd z Bool.false_ne_true, fun z => by
        rcases z with z | z | ⟨z, _⟩
        · exact absurd z c
        · exact absurd z c2
        · exact absurd d3 z⟩
  rintro b H1 ⟨g1, hb⟩
  cases b with
  | true =>
    exact iteT (qn (by unfold pairL; rw [if_pos (hb.mp rfl)]) _ g1)
  | false =>
  refine iteF ?_
  have ng : ¬ (numL a < 0 ∨ r ≤ numL a ∨ (y ≠ "-" ∧ (y = "" ∨ wordS y = false))) := fun z => Bool.false_ne_true (hb.mpr z)
  have em : pairL r a y = some (numL a, rdW y) := by unfold pairL; rw [if_neg ng]
  refine ⟨_, rfl, _, rfl, p, _, _, .str y, rfl, rfl, g1.seq hp, rfl, rfl, y, rfl, rfl, by omega, ?_⟩
  have fin : ∀ z, z = rdW y → ∀ b', H1 b' = none → Q (.ref b') (upd H1 b' (.tup [.int (numL a), .str z])) := fun z ez b' hb' => by
    rw [ez]; exact qs _ em b' _ (g1.trans (same_new hb' _)) upd_same
  by_cases d3 : y = "-"
  · exact .inl ⟨d3, (by show 2 ≤ sizeLine; decide), fun b' hb' => fin _ (by rw [d3]; exact (if_pos rfl).symm) b' hb'⟩
  · have d5 : wordS y = true := by
      cases e : wordS y with
      | true => rfl
      | false => exact absurd (.inr (.inr ⟨d3, .inr e⟩)) ng
    exact .inr ⟨dash_no d5, (by show 2 ≤ sizeLine; decide), fun b' hb' => fin _ (rdW_of d3).symm b' hb'⟩

theorem sc_law_row : FnScope ["_law_row_here", "_law_signs_here", "_law_rooms", "_law_words", "_law_low", "_law_high", "_law_told"] ["_law_row_here", "_law_signs_here", "_law_rooms"] (defScope s_law_row) := ⟨rfl, rfl, rfl, by decide +kernel, rfl, by decide +kernel, by decide +kernel⟩
theorem ok_law_row (B : Bi mg) {c_ScribeError c_NoWay c_NoRoom c_NotPlain c_OtherSigns c_TooMany c_TwoWays c_NeverPlain c_NoText : Addr} (XB : Xb K mg c_ScribeError c_NoWay c_NoRoom c_NotPlain c_OtherSigns c_TooMany c_TwoWays c_NeverPlain c_NoText) (C_law_pair : Cal P w K mg base "_law_pair" ["_law_words", "_law_rooms"] 2 (spPair K)) (C_law_number : Cal P w K mg base "_law_number" ["_law_text"] 1 (spLNum)) {f : Addr} {fd : FuncData} (F : Fun K "_law_row" "_law_row" s_law_row f fd) : FnOk P w K mg base CX0 3 f fd ["_law_row_here", "_law_signs_here", "_law_rooms"] (spRow K) := by
  refine F.ok sc_law_row (fun vs H Q E h => ?_) (fun cdv A outer s H vs Q E hr h => ?_)
  · obtain ⟨row, g, r, rfl, _⟩ := h; rfl
  obtain ⟨row, g, r, rfl, hrow, hg, qn, qm, qs⟩ := h
  refine ⟨_, (pss_cons (ps_set (i := 3) sc_law_row.nd rfl (Or.inl rfl) (kPE (K := K) (fun k => tBM k _ _ _ _) (pe_bm PySem.F.plainAttrs_str PySem.F.slot_str_split PySem.F.type_str_split mt_split (pv 0) (pa_cons pe_str pa_nil))))
      (pss_cons (ps_if (pt_abs (PW.pt (pw_and (pt_cmpR op_eq (pe_ix (kIx (K := K) rIxL ix_list) (pv 3) pe_int (by intro _ _; rfl)) pe_str (nomark _)) (pw_and (pt_cmpR op_eq (pe_callB (kLen (K := K)) (by rfl) B.len bt_len (pa_cons (pv 3) pa_nil)) pe_int (nomark _)) (pw_and (pt_cmpR op_eq (pe_callB call_len_str (by rfl) B.len bt_len (pa_cons (pe_ix (kIx (K := K) rIxL ix_list) (pv 3) pe_int (by intro _ _; rfl)) pa_nil)) pe_int (nomark _)) (pw_and1 (pt_cmpR op_in_str (pe_ix (kIx (K := K) rIxL ix_list) (pv 3) pe_int (by intro _ _; rfl)) (pv 1) rfl))))))) (pss_cons (ps_set (i := 4) sc_law_row.nd rfl (Or.inl rfl) (pe_fn C_law_pair hr (by decide : 2 ≤ 2) (by rfl) (pa_cons (pe_lst (pa_cons (pe_ix (kIx (K := K) rIxL ix_list) (pv 3) pe_int (by intro _ _; rfl)) (pa_cons (pe_ix (kIx (K := K) rIxL ix_list) (pv 3) pe_int (by intro _ _; rfl)) pa_nil))) (pa_cons (pv 2) pa_nil))))
      (pss_cons (ps_set (i := 5) sc_law_row.nd rfl (Or.inl rfl) (pe_fn C_law_number hr (by decide : 1 ≤ 2) (by rfl) (pa_cons (pe_ix (kIx (K := K) rIxL ix_list) (pv 3) pe_int (by intro _ _; rfl)) pa_nil)))
      (pss_cons (ps_if (pt_abs (PW.pt (pw_or (pt_cmpR op_isN (pv 4) pe_non (nomark _)) (pw_or (pt_cmpR op_lt (pv 5) pe_int (nomark _)) (pw_or1 (pt_cmpR op_ge (pv 5) (pv 2) (nomark _))))))) (pss_one (ps_ret pe_non)) pss_nil)
      (pss_one (ps_ret (pe_lst (pa_cons pe_int (pa_cons (pe_tup (pa_cons (pe_ix (kIx (K := K) rIxT ix_tup) (pv 4) pe_int (by intro _ _; rfl)) (pa_cons (pe_ix (kIx (K := K) rIxL ix_list) (pv 3) pe_int (by intro _ _; rfl)) (pa_cons (pe_ix (kIx (K := K) rIxT ix_tup) (pv 4) pe_int (by intro _ _; rfl)) (pa_cons (pv 5) pa_nil))))) pa_nil)))))))) pss_nil)
      (pss_cons (ps_if (pt_abs (PW.pt (pw_or (PW.pt (pw_and (pt_cmpR op_ne (pe_ix (kIx (K := K) rIxL ix_list) (pv 3) pe_int (by intro _ _; rfl)) pe_str (nomark _)) (pw_and1 (pt_cmpR op_ne (pe_ix (kIx (K := K) rIxL ix_list) (pv 3) pe_int (by intro _ _; rfl)) pe_str (nomark _))))) (pw_or1 (pt_cmpR op_ne (pe_callB (kLen (K := K)) (by rfl) B.len bt_len (pa_cons (pv 3) pa_nil)) pe_int (nomark _)))))) (pss_one (ps_ret pe_non)) pss_nil)
      (pss_cons (ps_set (i := 6) sc_law_row.nd rfl (Or.inl rfl) (pe_fn C_law_pair hr (by decide : 2 ≤ 2) (by rfl) (pa_cons (pe_slice (kSl (K := K) rSlL sl_list) (pv 3) (po_some pe_int) po_none) (pa_cons (pv 2) pa_nil))))
      (pss_cons (ps_if (pt_cmpR op_isN (pv 6) pe_non (nomark _)) (pss_one (ps_ret pe_non)) pss_nil)
      (pss_one (ps_ret (pe_lst (pa_cons (pe_ix (kIx (K := K) rIxL ix_list) (pe_lst (pa_cons pe_int (pa_cons pe_int pa_nil))) (pe_callTy call_int1 (by rfl) B.int bt_int (pa_cons (pe_cmpR op_eq (pe_ix (kIx (K := K) rIxL ix_list) (pv 3) pe_int (by intro _ _; rfl)) pe_str (nomark _)) pa_nil)) (by intro _ _; rfl)) (pa_cons (pv 6) pa_nil)))))))))), ?_⟩
  have e1 : Txt.split row ⟨#[32]⟩ = spl row := rfl
  have hm := spl_many row
  refine ⟨_, rfl, rfl, _, 32, rfl, by rw [sp_eq], by omega, by rw [e1]; omega, fun l hl => ?_⟩
  rw [e1]
  have g1 := same_new hl (.lst ((spl row).map V.str))
  have el := upd_same (H := H) (a := l) (o := .lst ((spl row).map V.str))
  generalize upd H l (.lst ((spl row).map V.str)) = H1 at g1 el ⊢
  obtain ⟨k, t, ek⟩ := hd_of (spl_ne row)
  have hlen : ∀ q, q ∈ spl row → q.length ≤ 3900 := fun q hq => Nat.le_trans (spl_len hq) hrow
  refine ⟨fun b H' => H1 = H' ∧ (b = true ↔ ∃ a y w' b', spl row = [k, a, y, w', b'] ∧ k = "step" ∧ y.length = 1 ∧ inS y g = true), ?_, ?_⟩
  · have el' := el
    rw [ek] at el'
    refine ⟨_, rfl, l, _, _, .str k, rfl, rfl, SqL.of el', atI_nat (j := 0) rfl, rfl, _, rfl, iteDd (fun c => ?_) (fun c => ?_)⟩
    rotate_left
    · exact ⟨rfl, fun z => absurd z Bool.false_ne_true, fun ⟨_, _, _, _, _, z, _⟩ => absurd (by rw [z]) c⟩
    have c : k = "step" := by injection c
    refine ⟨_, rfl, l, _, rfl, .inl (SqL.of el), rfl, _, rfl, iteDd (fun c5 => ?_) (fun c5 => ?_)⟩
    rotate_left
    · rw [List.length_map] at c5
      exact ⟨rfl, fun z => absurd z Bool.false_ne_true, fun ⟨_, _, _, _, z, _⟩ => absurd (by rw [z]; rfl) c5⟩
    rw [List.length_map] at c5
    obtain ⟨k', a, y, w', b', es⟩ := len5 (len_dec (m := 5) c5)
    have ek' : k' = k := by rw [es] at ek; exact (List.cons.inj ek).1
    subst ek'
    rw [es] at el
    have hy := hlen y (by rw [es]; simp)
    refine ⟨_, rfl, l, _, _, .str y, rfl, rfl, SqL.of el, rfl, y, rfl, szl (by omega), rfl, _, rfl, iteDd (fun c1 => ?_) (fun c1 => ?_)⟩
    rotate_left
    · refine ⟨rfl, fun z => absurd z Bool.false_ne_true, fun ⟨_, _, _, _, z, _, z2, _⟩ => absurd ?_ c1⟩
      rw [es] at z
      injection z with _ z
      injection z with _ z
      injection z with z _
      rw [z, z2]; rfl
    have c1 := len_dec (m := 1) c1
    refine ⟨_, rfl, l, _, _, .str y, rfl, rfl, SqL.of el, rfl, _, rfl, _, _, rfl, rfl, _, rfl, ?_⟩
    refine ⟨rfl, fun z => ⟨a, y, w', b', es, c, c1, z⟩, fun ⟨_, _, _, _, z, _, _, z2⟩ => ?_⟩
    rw [es] at z
    injection z with _ z
    injection z with _ z
    injection z with z _
    rw [← z] at z2
    exact z2
  rintro b _ ⟨rfl, hb⟩
  cases b with
  | true =>
    obtain ⟨a, y, w', b', es, c, c1, c2⟩ := hb.mp rfl
    have er := rowL_5 (g := g) (r := r) es
    rw [if_pos ⟨c, c1, c2⟩] at er
    rw [es] at el
    have ha := hlen a (by rw [es]; simp)
    have hw' := hlen w' (by rw [es]; simp)
    have hb' := hlen b' (by rw [es]; simp)
    refine iteT ⟨_, rfl, l, _, _, .str a, rfl, rfl, SqL.of el, rfl, _, rfl, l, _, _, .str w', rfl, rfl, SqL.of el, rfl, szl (by simp), fun l2 hl2 => ⟨_, rfl, l2, a, w', r, rfl, SqL.of upd_same, ha, hw', fun ep H2 g2 => ?_, fun m ep b2 H2 g2 eb2 => ?_⟩⟩
    · have gg := (same_new hl2 (.lst [V.str a, V.str w'])).trans g2
      rw [ep] at er
      refine ⟨_, rfl, l, _, _, .str b', rfl, rfl, SqL.of (gg _ _ el), rfl, b', rfl, hb', ?_⟩
      refine ⟨fun b H' => H2 = H' ∧ b = true, ⟨_, rfl, rfl, _, rfl, iteT ⟨rfl, rfl⟩⟩, ?_⟩
      rintro _ _ ⟨rfl, rfl⟩
      exact iteT (qn er _ (g1.trans gg))
    · have gg := (same_new hl2 (.lst [V.str a, V.str w'])).trans g2
      rw [ep] at er
      refine ⟨_, rfl, l, _, _, .str b', rfl, rfl, SqL.of (gg _ _ el), rfl, b', rfl, hb', ?_⟩
      refine ⟨fun b H' => H2 = H' ∧ (b = true ↔ (numL b' < 0 ∨ r ≤ numL b')), ⟨_, rfl, rfl, _, rfl, iteF ⟨_, rfl, _, _, rfl, rfl, _, rfl, iteDd (fun c => ?_) (fun c => ?_)⟩⟩, ?_⟩
      · exact ⟨rfl, fun _ => .inl c, fun _ => rfl⟩
      · refine ⟨_, rfl, _, rfl, _, _, rfl, rfl, _, rfl, rfl, fun z => .inr (of_decide_eq_true z), fun z => ?_⟩
        rcases z with z | z
        · exact absurd z c
        · exact decide_eq_true z
      rintro b _ ⟨rfl, hb⟩
      dsimp only at er
      cases b with
      | true => exact iteT (qn (by rw [er, if_pos (hb.mp rfl)]) _ (g1.trans gg))
      | false =>
        rw [if_neg (fun z => Bool.false_ne_true (hb.mpr z))] at er
        refine iteF ⟨_, rfl, b2, _, _, _, rfl, rfl, SqT.of eb2, rfl, _, rfl, l, _, _, .str y, rfl, rfl, SqL.of (gg _ _ el), rfl, _, rfl, b2, _, _, _, rfl, rfl, SqT.of eb2, rfl, _, rfl, (by show 4 ≤ sizeLine; decide), fun tt htt => ⟨szl (by simp), fun ll hll => ?_⟩⟩
        exact qs _ er ll tt _ ((g1.trans gg).trans ((same_new htt _).trans (same_new hll _))) upd_same ((same_new hll _) _ _ upd_same)
  | false =>
  refine iteF ?_
  have el' := el
  rw [ek] at el'
  refine ⟨fun b H' => H1 = H' ∧ (b = true ↔ ((k ≠ "begin" ∧ k ≠ "end") ∨ (spl row).length ≠ 3)), ?_, ?_⟩
  · have lst : ∀ P : Prop, ¬ P → ((!decide (V.int (((spl row).map V.str).length : Int) = V.int ((3 : Nat) : Int))) = true ↔ P ∨ (spl row).length ≠ 3) := fun P hP => by
      rw [nd_int, List.length_map]
      by_cases c : (spl row).length = 3
      · rw [decide_eq_true c]; exact ⟨fun z => absurd z (by decide), fun z => z.elim (fun z => absurd z hP) (fun z => absurd c z)⟩
      · rw [decide_eq_false c]; exact ⟨fun _ => .inr c, fun _ => rfl⟩
    refine ⟨_, rfl, l, _, _, .str k, rfl, rfl, SqL.of el', atI_nat (j := 0) rfl, rfl, _, rfl, iteNd (fun c => ?_) (fun c => ?_)⟩
    · refine ⟨_, rfl, l, _, _, .str k, rfl, rfl, SqL.of el', atI_nat (j := 0) rfl, rfl, _, rfl, iteNd (fun c2 => ?_) (fun c2 => ?_)⟩
      · exact ⟨rfl, fun _ => .inl ⟨fun z => c (by rw [z]), fun z => c2 (by rw [z])⟩, fun _ => rfl⟩
      · have c2 : k = "end" := by injection c2
        exact ⟨_, rfl, l, _, rfl, .inl (SqL.of el), rfl, _, rfl, rfl, lst _ (fun z => z.2 c2)⟩
    · have c : k = "begin" := by injection c
      exact ⟨_, rfl, l, _, rfl, .inl (SqL.of el), rfl, _, rfl, rfl, lst _ (fun z => z.1 c)⟩
  rintro b _ ⟨rfl, hb2⟩
  cases b with
  | true =>
    refine iteT (qn ?_ _ g1)
    have nb : ¬ ∃ a y w' b', spl row = [k, a, y, w', b'] ∧ k = "step" ∧ y.length = 1 ∧ inS y g = true := fun z => Bool.false_ne_true (hb.mpr z)
    have h0 := hb2.mp rfl
    by_cases c5 : (spl row).length = 5
    · obtain ⟨k', a, y, w', b', es⟩ := len5 c5
      have ek' : k' = k := by rw [es] at ek; exact (List.cons.inj ek).1
      subst ek'
      rw [rowL_5 es, if_neg (fun z => nb ⟨a, y, w', b', es, z⟩)]
    · by_cases c3 : (spl row).length = 3
      · obtain ⟨k', a, w', es⟩ := len3 c3
        have ek' : k' = k := by rw [es] at ek; exact (List.cons.inj ek).1
        subst ek'
        rcases h0 with h0 | h0
        · rw [rowL_3 es, if_neg h0.1, if_neg h0.2]
        · exact absurd c3 h0
      · exact rowL_no c5 c3
  | false =>
  have ng : ¬ ((k ≠ "begin" ∧ k ≠ "end") ∨ (spl row).length ≠ 3) := fun z => Bool.false_ne_true (hb2.mpr z)
  have c3 : (spl row).length = 3 := Classical.not_not.mp fun z => ng (.inr z)
  obtain ⟨k', a, w', es⟩ := len3 c3
  have ek' : k' = k := by rw [es] at ek; exact (List.cons.inj ek).1
  subst ek'
  have er := rowL_3 (g := g) (r := r) es
  rw [es] at el
  have ha := hlen a (by rw [es]; simp)
  have hw' := hlen w' (by rw [es]; simp)
  refine iteF ⟨_, rfl, _, rfl, l, _, rfl, SqL.of el, fun l2 hl2 => ?_⟩
  rw [show cutV (List.map V.str [k', a, w']) (some 1) none = [V.str a, V.str w'] from cut13]
  refine ⟨_, rfl, l2, a, w', r, rfl, SqL.of upd_same, ha, hw', fun ep H2 g2 => ?_, fun m ep b2 H2 g2 eb2 => ?_⟩
  · have gg := (same_new hl2 (.lst [V.str a, V.str w'])).trans g2
    refine ⟨_, rfl, rfl, _, rfl, iteT (qn ?_ _ (g1.trans gg))⟩
    rw [er, ep]
    split
    · rfl
    · split <;> rfl
  · have gg := (same_new hl2 (.lst [V.str a, V.str w'])).trans g2
    have G := g1.trans gg
    rw [ep] at er
    refine ⟨_, rfl, rfl, _, rfl, iteF ?_⟩
    refine ⟨szl (by simp), fun l3 hl3 => ?_⟩
    have k3 := same_new hl3 (.lst [V.int 0, V.int 2])
    refine ⟨_, rfl, l, _, _, .str k', rfl, rfl, SqL.of (k3 _ _ (gg _ _ el)), rfl, rfl, .inr ⟨_, rfl, ?_⟩⟩
    by_cases c : k' = "begin"
    · rw [if_pos c] at er
      rw [c, decide_eq_false (fun z => ne_eb (by injection z with z; exact z.symm))]
      refine ⟨l3, _, _, .int 0, rfl, rfl, SqL.of upd_same, rfl, _, rfl, szl (by simp), fun ll hll => ?_⟩
      exact qm false m er ll b2 _ (G.trans (k3.trans (same_new hll _))) upd_same ((same_new hll _) _ _ (k3 _ _ eb2))
    · have c4 : k' = "end" := Classical.not_not.mp fun z => ng (.inl ⟨c, z⟩)
      rw [if_neg c, if_pos c4] at er
      rw [c4, decide_eq_true rfl]
      refine ⟨l3, _, _, .int 2, rfl, rfl, SqL.of upd_same, rfl, _, rfl, szl (by simp), fun ll hll => ?_⟩
      exact qm true m er ll b2 _ (G.trans (k3.trans (same_new hll _))) upd_same ((same_new hll _) _ _ (k3 _ _ eb2))

theorem sc_law_reader : FnScope ["_law_text", "_law_rows", "_law_head", "_law_rooms", "_law_lists", "_law_last", "_law_row_here", "_law_told"] ["_law_text"] (defScope s_law_reader) := ⟨rfl, rfl, rfl, by decide +kernel, rfl, by decide +kernel, by decide +kernel⟩
theorem ok_law_reader (B : Bi mg) {c_ScribeError c_NoWay c_NoRoom c_NotPlain c_OtherSigns c_TooMany c_TwoWays c_NeverPlain c_NoText : Addr} (XB : Xb K mg c_ScribeError c_NoWay c_NoRoom c_NotPlain c_OtherSigns c_TooMany c_TwoWays c_NeverPlain c_NoText) (C_law_number : Cal P w K mg base "_law_number" ["_law_text"] 1 (spLNum)) (C_law_row : Cal P w K mg base "_law_row" ["_law_row_here", "_law_signs_here", "_law_rooms"] 3 (spRow K)) (C_law_letters : Cal P w K mg base "_law_letters" ["_law_text"] 1 (spLet)) {f : Addr} {fd : FuncData} (F : Fun K "_law_reader" "_law_reader" s_law_reader f fd) : FnOk P w K mg base CX0 4 f fd ["_law_text"] (spReader K) := by
  refine F.ok sc_law_reader (fun vs H Q E h => ?_) (fun cdv A outer s H vs Q E hr h => ?_)
  · obtain ⟨x, rfl, _⟩ := h; rfl
  obtain ⟨x, rfl, hx, qn, qs⟩ := h
  refine ⟨_, (pss_cons (ps_set (i := 1) sc_law_reader.nd rfl (Or.inl rfl) (kPE (K := K) (fun k => tBM k _ _ _ _) (pe_bm PySem.F.plainAttrs_str PySem.F.slot_str_split PySem.F.type_str_split mt_split (pv 0) (pa_cons pe_str pa_nil))))
      (pss_cons (ps_set (i := 2) sc_law_reader.nd rfl (Or.inl rfl) (kPE (K := K) (fun k => tBM k _ _ _ _) (pe_bm PySem.F.plainAttrs_str PySem.F.slot_str_split PySem.F.type_str_split mt_split (pe_ix (kIx (K := K) rIxL ix_list) (pv 1) pe_int (by intro _ _; rfl)) (pa_cons pe_str pa_nil))))
      (pss_cons (ps_if (pt_abs (PW.pt (pw_or (pt_cmpR op_ne (pe_callB (kLen (K := K)) (by rfl) B.len bt_len (pa_cons (pv 2) pa_nil)) pe_int (nomark _)) (pw_or (pt_cmpR op_eq (pe_ix (kIx (K := K) rIxL ix_list) (pv 2) pe_int (by intro _ _; rfl)) pe_str (nomark _)) (pw_or1 (pt_not (pt_val (pe_fn C_law_letters hr (by decide : 1 ≤ 3) (by rfl) (pa_cons (pe_ix (kIx (K := K) rIxL ix_list) (pv 2) pe_int (by intro _ _; rfl)) pa_nil))))))))) (pss_one (ps_ret pe_non)) pss_nil)
      (pss_cons (ps_set (i := 3) sc_law_reader.nd rfl (Or.inl rfl) (pe_fn C_law_number hr (by decide : 1 ≤ 3) (by rfl) (pa_cons (pe_ix (kIx (K := K) rIxL ix_list) (pv 2) pe_int (by intro _ _; rfl)) pa_nil)))
      (pss_cons (ps_if (pt_abs (PW.pt (pw_or (pt_cmpR op_lt (pv 3) pe_int (nomark _)) (pw_or (pt_cmpR op_gt (pv 3) pe_int (nomark _)) (pw_or1 (pt_cmpR op_lt (pe_callB call_len_set (by rfl) B.len bt_len (pa_cons (pe_callTy (call_setS (by rfl)) (by rfl) B.set bt_set (pa_cons (pe_ix (kIx (K := K) rIxL ix_list) (pv 2) pe_int (by intro _ _; rfl)) pa_nil)) pa_nil)) (pe_callB call_len_str (by rfl) B.len bt_len (pa_cons (pe_ix (kIx (K := K) rIxL ix_list) (pv 2) pe_int (by intro _ _; rfl)) pa_nil)) (nomark _))))))) (pss_one (ps_ret pe_non)) pss_nil)
      (pss_cons (ps_set (i := 4) sc_law_reader.nd rfl (Or.inl rfl) (pe_lst (pa_cons (pe_lst pa_nil) (pa_cons (pe_lst pa_nil) (pa_cons (pe_lst pa_nil) pa_nil)))))
      (pss_cons (ps_set (i := 5) sc_law_reader.nd rfl (Or.inl rfl) pe_int)
      (pss_cons (ps_for PassesOwn.never (by rfl) (kPI (K := K) (fun k => iList k _) (pi_list (pe_slice (kSl (K := K) rSlL sl_list) (pv 1) (po_some pe_int) po_none))) (pg_name (i := 6) sc_law_reader.nd rfl (Or.inl rfl)) (pss_cons (ps_set (i := 7) sc_law_reader.nd rfl (Or.inl rfl) (pe_fn C_law_row hr (by decide : 3 ≤ 3) (by rfl) (pa_cons (pv 6) (pa_cons (pe_ix (kIx (K := K) rIxL ix_list) (pv 2) pe_int (by intro _ _; rfl)) (pa_cons (pv 3) pa_nil)))))
      (pss_cons (ps_if (pt_abs (PW.pt (pw_or (pt_cmpR op_isN (pv 7) pe_non (nomark _)) (pw_or (pt_cmpR op_lt (pe_ix (kIx (K := K) rIxL ix_list) (pv 7) pe_int (by intro _ _; rfl)) (pv 5) (nomark _)) (pw_or1 (pt_cmpR (kOp (K := K) (rInD · false) (op_inD hr.units)) (pe_ix (kIx (K := K) rIxL ix_list) (pv 7) pe_int (by intro _ _; rfl)) (pe_ix (kIx (K := K) rIxL ix_list) (pv 4) (pe_ix (kIx (K := K) rIxL ix_list) (pv 7) pe_int (by intro _ _; rfl)) (by intro _ _; rfl)) rfl)))))) (pss_one (ps_ret pe_non)) pss_nil)
      (pss_cons (ps_set (i := 5) sc_law_reader.nd rfl (Or.inl rfl) (pe_ix (kIx (K := K) rIxL ix_list) (pv 7) pe_int (by intro _ _; rfl)))
      (pss_one (ps_expr (kPE (K := K) (fun k => tBM k _ _ _ _) (pe_bm PySem.F.plainAttrs_list PySem.F.slot_list_append PySem.F.type_list_append mt_append (pe_ix (kIx (K := K) rIxL ix_list) (pv 4) (pv 5) (by intro _ _; rfl)) (pa_cons (pe_ix (kIx (K := K) rIxL ix_list) (pv 7) pe_int (by intro _ _; rfl)) pa_nil)))))))))
      (pss_one (ps_ret (pe_tup (pa_cons (pe_ix (kIx (K := K) rIxL ix_list) (pv 2) pe_int (by intro _ _; rfl)) (pa_cons (pv 3) (pa_cons (pe_ix (kIx (K := K) rIxL ix_list) (pv 4) pe_int (by intro _ _; rfl)) (pa_cons (pe_ix (kIx (K := K) rIxL ix_list) (pv 4) pe_int (by intro _ _; rfl)) (pa_cons (pe_ix (kIx (K := K) rIxL ix_list) (pv 4) pe_int (by intro _ _; rfl)) pa_nil)))))))))))))))), ?_⟩
  have e1 : Txt.split x ⟨#[10]⟩ = lns x := rfl
  have hm := lns_many x
  refine ⟨_, rfl, rfl, _, 10, rfl, by rw [nl_eq], by omega, by rw [e1]; omega, fun lr hlr => ?_⟩
  rw [e1]
  have g1 := same_new hlr (.lst ((lns x).map V.str))
  have er := upd_same (H := H) (a := lr) (o := .lst ((lns x).map V.str))
  generalize upd H lr (.lst ((lns x).map V.str)) = H1 at g1 er ⊢
  obtain ⟨hd, rest, el⟩ := hd_of (lns_ne x)
  have hro : ∀ row, row ∈ lns x → row.length ≤ 3900 := fun row hr => Nat.le_trans (lns_len hr) hx
  have eR : RL x = match headL hd with
      | some (g, r) => (rest.foldlM (stL g r) ((0, [], [], []) : Qud)).map fun z => ⟨g, r, z.2.1, z.2.2.1, z.2.2.2⟩
      | none => none := by unfold RL; rw [el]
  rw [el] at er hro hm
  have hhd := hro hd (List.mem_cons_self ..)
  have e2 : Txt.split hd ⟨#[32]⟩ = spl hd := rfl
  have hm2 := spl_many hd
  refine ⟨_, rfl, lr, _, _, .str hd, rfl, rfl, SqL.of er, atI_nat (j := 0) rfl, rfl, _, 32, rfl, by rw [sp_eq], by omega, by rw [e2]; omega, fun lh hlh => ?_⟩
  rw [e2]
  have k2 := same_new hlh (.lst ((spl hd).map V.str))
  have eh := upd_same (H := H1) (a := lh) (o := .lst ((spl hd).map V.str))
  have er := k2 _ _ er
  have g2 := g1.trans k2
  generalize upd H1 lh (.lst ((spl hd).map V.str)) = H2 at g2 eh er ⊢
  refine ⟨fun b H' => Same H2 H' ∧ (b = false → ∃ g n, spl hd = [g, n] ∧ g ≠ "" ∧ wordS g = true) ∧ (b = true → headL hd = none), ?_, ?_⟩
  · refine ⟨_, rfl, lh, _, rfl, .inl (SqL.of eh), rfl, _, rfl, iteNd (fun c => ?_) (fun c => ?_)⟩
    · rw [List.length_map] at c
      refine ⟨Same.refl _, fun z => absurd z.symm Bool.false_ne_true, fun _ => ?_⟩
      unfold headL
      split
      · rename_i es; rw [es] at c; exact absurd rfl c
      · rfl
    rw [List.length_map] at c
    obtain ⟨g, n, es⟩ := len2 (len_dec (m := 2) c)
    rw [es] at eh
    have hg : g.length ≤ 3900 := Nat.le_trans (spl_len (by rw [es]; simp)) hhd
    have eH : headL hd = if g = "" ∨ wordS g = false ∨ numL n < 0 ∨ 200 < numL n ∨ ¬ (cl g).Nodup then none else some (g, numL n) := by unfold headL; rw [es]
    refine ⟨_, rfl, lh, _, _, .str g, rfl, rfl, SqL.of eh, rfl, rfl, _, rfl, iteDd (fun c2 => ?_) (fun c2 => ?_)⟩
    · have c2 : g = "" := by injection c2
      exact ⟨Same.refl _, fun z => absurd z.symm Bool.false_ne_true, fun _ => by rw [eH, if_pos (.inl c2)]⟩
    have d2 : g ≠ "" := fun z => c2 (by rw [z])
    refine ⟨_, rfl, lh, _, _, .str g, rfl, rfl, SqL.of eh, rfl, g, rfl, hg, fun H3 g3 => ⟨_, rfl, ?_⟩⟩
    refine ⟨g3, fun z => ⟨g, n, es, d2, ?_⟩, fun z => ?_⟩
    · cases e : wordS g with
      | true => rfl
      | false => rw [e] at z; cases z
    · have e : wordS g = false := by
        cases e : wordS g with
        | false => rfl
        | true => rw [e] at z; cases z
      rw [eH, if_pos (.inr (.inl e))]
  rintro b H3 ⟨g3, hF, hT⟩
  cases b with
  | true => exact iteT (qn (by rw [eR, hT rfl]) _ (g2.trans g3))
  | false =>
  refine iteF ?_
  obtain ⟨g, n, es, d2, d3⟩ := hF rfl
  have eH : headL hd = if g = "" ∨ wordS g = false ∨ numL n < 0 ∨ 200 < numL n ∨ ¬ (cl g).Nodup then none else some (g, numL n) := by unfold headL; rw [es]
  have hg : g.length ≤ 3900 := Nat.le_trans (spl_len (by rw [es]; simp)) hhd
  have hn : n.length ≤ 3900 := Nat.le_trans (spl_len (by rw [es]; simp)) hhd
  have eh := g3 _ _ eh
  have er := g3 _ _ er
  have g3 := g2.trans g3
  rw [es] at eh
  refine ⟨_, rfl, lh, _, _, .str n, rfl, rfl, SqL.of eh, rfl, n, rfl, hn, ?_⟩
  refine ⟨fun b H' => Same H3 H' ∧ (b = true ↔ (numL n < 0 ∨ 200 < numL n ∨ ¬ (cl g).Nodup)), ?_, ?_⟩
  · refine ⟨_, rfl, _, _, rfl, rfl, _, rfl, iteDd (fun c => ?_) (fun c => ?_)⟩
    · exact ⟨Same.refl _, fun _ => .inl c, fun _ => rfl⟩
    refine ⟨_, rfl, _, _, rfl, rfl, _, rfl, iteDd (fun c2 => ?_) (fun c2 => ?_)⟩
    · exact ⟨Same.refl _, fun _ => .inr (.inl c2), fun _ => rfl⟩
    have hle := ndist_le (cl g).reverse
    rw [List.length_reverse, cl_length] at hle
    refine ⟨_, rfl, lh, _, _, .str g, rfl, rfl, SqL.of eh, rfl, g, rfl, by omega, fun d hd' => ?_⟩
    have kd := same_new hd' (SetN d (ndist (cl g).reverse))
    refine ⟨_, _, rfl, upd_same, by omega, _, rfl, lh, _, _, .str g, rfl, rfl, SqL.of (kd _ _ eh), rfl, g, rfl, szl (by omega), _, _, rfl, rfl, _, rfl, kd, ?_⟩
    rw [nd_lt]
    constructor
    · intro z
      refine .inr (.inr fun nd => ?_)
      rw [decide_eq_true nd] at z; cases z
    · rintro (z | z | z)
      · exact absurd z c
      · exact absurd z c2
      · rw [decide_eq_false z]; rfl
  rintro b H4 ⟨g4, hb⟩
  cases b with
  | true => exact iteT (qn (by rw [eR, eH, if_pos (.inr (.inr (hb.mp rfl)))]) _ (g3.trans g4))
  | false =>
  refine iteF ?_
  have ng : ¬ (g = "" ∨ wordS g = false ∨ numL n < 0 ∨ 200 < numL n ∨ ¬ (cl g).Nodup) := fun z => by
    rcases z with z | z | z
    · exact d2 z
    · rw [d3] at z; cases z
    · exact Bool.false_ne_true (hb.mpr z)
  rw [if_neg ng] at eH
  rw [eH] at eR
  dsimp only at eR
  have eh := g4 _ _ eh
  have er := g4 _ _ er
  have g4 := g3.trans g4
  have eh4 := eh
  generalize numL n = r at eR ⊢
  refine ⟨szl (by simp), fun pb hpb => ?_⟩
  refine ⟨szl (by simp), fun ps hps => ?_⟩
  refine ⟨szl (by simp), fun pe hpe => ?_⟩
  refine ⟨szl (by simp), fun pl hpl => ?_⟩
  have hps' : H4 ps = none := (same_new hpb _).free hps
  have hpe' : upd H4 pb (.lst []) pe = none := (same_new hps _).free hpe
  have hpl' : upd (upd H4 pb (.lst [])) ps (.lst []) pl = none := (same_new hpe _).free hpl
  have hpl'' : upd H4 pb (.lst []) pl = none := (same_new hps _).free hpl'
  have AP : Apart H4 pb ps pe := ⟨hpb, hps', (same_new hpb _).free hpe', ne_of_none upd_same hps, ne_of_none upd_same hpe', ne_of_none upd_same hpe⟩
  have lb : pl ≠ pb := (ne_of_none upd_same hpl'').symm
  have lS : pl ≠ ps := (ne_of_none upd_same hpl').symm
  have le : pl ≠ pe := (ne_of_none upd_same hpl).symm
  have g5 : Same H4 (upd (upd (upd (upd H4 pb (.lst [])) ps (.lst [])) pe (.lst [])) pl (.lst [.ref pb, .ref ps, .ref pe])) := (((same_new hpb _).trans (same_new hps _)).trans (same_new hpe _)).trans (same_new hpl _)
  have ib : upd (upd (upd (upd H4 pb (.lst [])) ps (.lst [])) pe (.lst [])) pl (.lst [.ref pb, .ref ps, .ref pe]) pb = some (.lst []) := by rw [upd_ne lb.symm, upd_ne AP.be, upd_ne AP.bs]; exact upd_same
  have is : upd (upd (upd (upd H4 pb (.lst [])) ps (.lst [])) pe (.lst [])) pl (.lst [.ref pb, .ref ps, .ref pe]) ps = some (.lst []) := by rw [upd_ne lS.symm, upd_ne AP.se]; exact upd_same
  have ie : upd (upd (upd (upd H4 pb (.lst [])) ps (.lst [])) pe (.lst [])) pl (.lst [.ref pb, .ref ps, .ref pe]) pe = some (.lst []) := by rw [upd_ne le.symm]; exact upd_same
  have il := upd_same (H := upd (upd (upd H4 pb (.lst [])) ps (.lst [])) pe (.lst [])) (a := pl) (o := .lst [.ref pb, .ref ps, .ref pe])
  generalize upd (upd (upd (upd H4 pb (.lst [])) ps (.lst [])) pe (.lst [])) pl (.lst [.ref pb, .ref ps, .ref pe]) = H5 at g5 ib is ie il ⊢
  have eh := g5 _ _ eh
  have er := g5 _ _ er
  refine ⟨_, rfl, _, rfl, lr, _, rfl, SqL.of er, fun pa hpa => ?_⟩
  rw [show cutV (List.map V.str (hd :: rest)) (some 1) none = rest.map V.str from cut1]
  have k6 := same_new hpa (.lst (rest.map V.str))
  have ea := upd_same (H := H5) (a := pa) (o := .lst (rest.map V.str))
  have apb : pa ≠ pb := (ne_of_none ib hpa).symm
  have aps : pa ≠ ps := (ne_of_none is hpa).symm
  have ape : pa ≠ pe := (ne_of_none ie hpa).symm
  have hpb_ : lh ≠ pb := fun z => by rw [z] at eh4; rw [AP.nb] at eh4; cases eh4
  have hps_ : lh ≠ ps := fun z => by rw [z] at eh4; rw [AP.ns] at eh4; cases eh4
  have hpe_ : lh ≠ pe := fun z => by rw [z] at eh4; rw [AP.ne] at eh4; cases eh4
  have ib := k6 _ _ ib
  have is := k6 _ _ is
  have ie := k6 _ _ ie
  have il := k6 _ _ il
  have eh := k6 _ _ eh
  have g6 := g5.trans k6
  refine ⟨pa, rfl, ⟨_, SqL.of ea⟩, ?_⟩
  generalize upd H5 pa (.lst (rest.map V.str)) = H6 at g6 ib is ie il eh ea ⊢
  have rl : rest.length ≤ 3900 := by rw [List.length_cons] at hm; omega
  refine for_list (xs := rest.map V.str) (fun i σ H' => Same H4 H' ∧ i ≤ rest.length ∧ ∃ z : Qud, z.1 ≤ 2 ∧ z.2.1.length ≤ i ∧ z.2.2.1.length ≤ i ∧ z.2.2.2.length ≤ i ∧ (∃ x6 x7, σ = [some (.str x), some (.ref lr), some (.ref lh), some (.int r), some (.ref pl), some (.int (z.1 : Int)), x6, x7]) ∧ H' pa = some (.lst (rest.map V.str)) ∧ H' lh = some (.lst ([g, n].map V.str)) ∧ H' pl = some (.lst [.ref pb, .ref ps, .ref pe]) ∧ (rest.take i).foldlM (stL g r) ((0, [], [], []) : Qud) = some z ∧ ∃ zb zs ze, H' pb = some (.lst zb) ∧ H' ps = some (.lst zs) ∧ H' pe = some (.lst ze) ∧ Paired (MkV K H') z.2.1 zb ∧ Paired (StV K H') z.2.2.1 zs ∧ Paired (MkV K H') z.2.2.2 ze)
    ⟨g6, Nat.zero_le _, (0, [], [], []), Nat.zero_le _, Nat.le_refl _, Nat.le_refl _, Nat.le_refl _, ⟨none, none, rfl⟩, ea, eh, il, rfl, [], [], [], ib, is, ie, .nil, .nil, .nil⟩ (fun i σ H' _ ⟨_, _, _, _, _, _, _, _, z, _⟩ => SqL.of z) ?_ ?_
  · rintro i y σ H6 hy ⟨g6, hi, z, z0, n1, n2, n3, ⟨x6, x7, rfl⟩, e6, eh6, il6, ez, zb, zs, ze, ib6, is6, ie6, pB, pS, pE⟩
    rw [List.getElem?_map] at hy
    obtain ⟨row, hrow, rfl⟩ := Option.map_eq_some_iff.mp hy
    have hil : i < rest.length := (List.getElem?_eq_some_iff.mp hrow).1
    have hrl := hro row (List.mem_cons_of_mem _ (List.mem_of_getElem? hrow))
    have lz1 := pB.length
    have lz2 := pS.length
    have lz3 := pE.length
    have bad : stL g r z row = none → ∀ H', Same H4 H' → Q .non H' := fun c H' g' => qn (by rw [eR, fold_none (i := i + 1) ((fold_take hrow ez).trans c)]; rfl) _ (g4.trans g')
    refine ⟨_, rfl, _, rfl, lh, _, _, .str g, rfl, rfl, SqL.of eh6, rfl, _, rfl, row, g, r, rfl, hrl, hg, fun en H7 g7 => ?_, fun f m em l b7 H7 g7 el7 eb7 => ?_, fun m em l b7 H7 g7 el7 eb7 => ?_⟩
    · refine ⟨fun b H' => H7 = H' ∧ b = true, ⟨_, rfl, rfl, _, rfl, iteT ⟨rfl, rfl⟩⟩, ?_⟩
      rintro _ _ ⟨rfl, rfl⟩
      exact iteT (bad (by unfold stL; rw [en]) _ (g6.trans g7))
    · cases f with
      | false =>
        have est : stL g r z row = if 0 < z.1 ∨ m ∈ z.2.1 then none else some (0, z.2.1 ++ [m], z.2.2.1, z.2.2.2) := by unfold stL; rw [em]
        have G := g6.trans g7
        have el6' := g7 _ _ il6
        have hx6 := g7 _ _ ib6
        refine ⟨fun b H' => H7 = H' ∧ (b = true ↔ (0 < z.1 ∨ m ∈ z.2.1)), ?_, ?_⟩
        · refine ⟨_, rfl, rfl, _, rfl, iteF ⟨_, rfl, l, _, _, .int 0, rfl, rfl, SqL.of el7, rfl, _, rfl, _, _, rfl, rfl, _, rfl, iteDd (fun c => ?_) (fun c => ?_)⟩⟩
          · exact ⟨rfl, fun _ => .inl (by omega), fun _ => rfl⟩
          refine ⟨_, rfl, l, _, _, .ref b7, rfl, rfl, SqL.of el7, rfl, _, rfl, _, rfl, l, _, _, .int 0, rfl, rfl, SqL.of el7, rfl, pl, _, _, .ref pb, rfl, rfl, SqL.of el6', rfl, dMk m, pb, zb, (z.2.1).map dMk, MkV.rep ⟨b7, rfl, SqT.of eb7⟩, rfl, SqL.of hx6, notIn_mk (m := m) (paired_mono (fun _ _ => MkV.mono (Same.grow g7)) pB), Nat.le_trans (deeps_map dMk 1 deep_dMk _) (by decide), _, rfl, rfl, ?_⟩
          have ea : ((z.2.1).map dMk).any (fun e => eqD e (dMk m)) = true ↔ m ∈ z.2.1 := by rw [any_mem dMk eqD_dMk]; simp
          show (((z.2.1).map dMk).any (fun e => eqD e (dMk m))) = true ↔ _
          rw [ea]
          exact ⟨fun z => .inr z, fun z => z.elim (fun z => absurd z (by omega)) id⟩
        rintro b _ ⟨rfl, hb6⟩
        cases b with
        | true => exact iteT (bad (by rw [est, if_pos (hb6.mp rfl)]) _ G)
        | false =>
          have nb : ¬ (0 < z.1 ∨ m ∈ z.2.1) := fun z => Bool.false_ne_true (hb6.mpr z)
          rw [if_neg nb] at est
          have hlx : zb.length < sizeLine := szl' (by omega)
          have gt := grow_upd hx6 (.lst (zb ++ [.ref b7]))
          have gr := Grow.trans (Same.grow g7) gt
          refine iteF ⟨_, rfl, l, _, _, .int 0, rfl, rfl, SqL.of el7, rfl, _, rfl, _, rfl, pl, _, _, .ref pb, rfl, rfl, SqL.of el6', rfl, .inl ⟨rfl, _, SqL.of hx6⟩, _, rfl, l, _, _, .ref b7, rfl, rfl, SqL.of el7, rfl, pb, zb, .ref b7, rfl, rfl, hx6, hlx, ?_⟩
          refine ⟨same_updN G AP.nb, by omega, (0, z.2.1 ++ [m], z.2.2.1, z.2.2.2), (by show (0 : Nat) ≤ 2; decide), (by rw [List.length_append, List.length_singleton]; omega), (by show z.2.2.1.length ≤ _; omega), (by show z.2.2.2.length ≤ _; omega), ⟨_, _, rfl⟩, by rw [upd_ne (apb)]; exact g7 _ _ e6, by rw [upd_ne (hpb_)]; exact g7 _ _ eh6, by rw [upd_ne lb]; exact el6', (fold_take hrow ez).trans est, zb ++ [.ref b7], zs, ze, upd_same, by rw [upd_ne AP.bs.symm]; exact g7 _ _ is6, by rw [upd_ne AP.be.symm]; exact g7 _ _ ie6, paired_append (paired_mono (fun _ _ => MkV.mono gr) pB) (.cons ⟨b7, rfl, gt.seqT (SqT.of eb7)⟩ .nil), paired_mono (fun _ _ => StV.mono gr) pS, paired_mono (fun _ _ => MkV.mono gr) pE⟩
      | true =>
        have est : stL g r z row = if m ∈ z.2.2.2 then none else some (2, z.2.1, z.2.2.1, z.2.2.2 ++ [m]) := by unfold stL; rw [em]
        have G := g6.trans g7
        have el6' := g7 _ _ il6
        have hx6 := g7 _ _ ie6
        refine ⟨fun b H' => H7 = H' ∧ (b = true ↔ (2 < z.1 ∨ m ∈ z.2.2.2)), ?_, ?_⟩
        · refine ⟨_, rfl, rfl, _, rfl, iteF ⟨_, rfl, l, _, _, .int 2, rfl, rfl, SqL.of el7, rfl, _, rfl, _, _, rfl, rfl, _, rfl, iteDd (fun c => ?_) (fun c => ?_)⟩⟩
          · exact ⟨rfl, fun _ => .inl (by omega), fun _ => rfl⟩
          refine ⟨_, rfl, l, _, _, .ref b7, rfl, rfl, SqL.of el7, rfl, _, rfl, _, rfl, l, _, _, .int 2, rfl, rfl, SqL.of el7, rfl, pl, _, _, .ref pe, rfl, rfl, SqL.of el6', rfl, dMk m, pe, ze, (z.2.2.2).map dMk, MkV.rep ⟨b7, rfl, SqT.of eb7⟩, rfl, SqL.of hx6, notIn_mk (m := m) (paired_mono (fun _ _ => MkV.mono (Same.grow g7)) pE), Nat.le_trans (deeps_map dMk 1 deep_dMk _) (by decide), _, rfl, rfl, ?_⟩
          have ea : ((z.2.2.2).map dMk).any (fun e => eqD e (dMk m)) = true ↔ m ∈ z.2.2.2 := by rw [any_mem dMk eqD_dMk]; simp
          show (((z.2.2.2).map dMk).any (fun e => eqD e (dMk m))) = true ↔ _
          rw [ea]
          exact ⟨fun z => .inr z, fun z => z.elim (fun z => absurd z (by omega)) id⟩
        rintro b _ ⟨rfl, hb6⟩
        cases b with
        | true => exact iteT (bad (by rw [est, if_pos ((hb6.mp rfl).elim (fun z => absurd z (by omega)) id)]) _ G)
        | false =>
          have nb : ¬ (2 < z.1 ∨ m ∈ z.2.2.2) := fun z => Bool.false_ne_true (hb6.mpr z)
          rw [if_neg (fun z => nb (.inr z))] at est
          have hlx : ze.length < sizeLine := szl' (by omega)
          have gt := grow_upd hx6 (.lst (ze ++ [.ref b7]))
          have gr := Grow.trans (Same.grow g7) gt
          refine iteF ⟨_, rfl, l, _, _, .int 2, rfl, rfl, SqL.of el7, rfl, _, rfl, _, rfl, pl, _, _, .ref pe, rfl, rfl, SqL.of el6', rfl, .inl ⟨rfl, _, SqL.of hx6⟩, _, rfl, l, _, _, .ref b7, rfl, rfl, SqL.of el7, rfl, pe, ze, .ref b7, rfl, rfl, hx6, hlx, ?_⟩
          refine ⟨same_updN G AP.ne, by omega, (2, z.2.1, z.2.2.1, z.2.2.2 ++ [m]), (by show (2 : Nat) ≤ 2; decide), (by show z.2.1.length ≤ _; omega), (by show z.2.2.1.length ≤ _; omega), (by rw [List.length_append, List.length_singleton]; omega), ⟨_, _, rfl⟩, by rw [upd_ne (ape)]; exact g7 _ _ e6, by rw [upd_ne (hpe_)]; exact g7 _ _ eh6, by rw [upd_ne le]; exact el6', (fold_take hrow ez).trans est, zb, zs, ze ++ [.ref b7], by rw [upd_ne AP.be]; exact g7 _ _ ib6, by rw [upd_ne AP.se]; exact g7 _ _ is6, upd_same, paired_mono (fun _ _ => MkV.mono gr) pB, paired_mono (fun _ _ => StV.mono gr) pS, paired_append (paired_mono (fun _ _ => MkV.mono gr) pE) (.cons ⟨b7, rfl, gt.seqT (SqT.of eb7)⟩ .nil)⟩
    · have est : stL g r z row = if 1 < z.1 ∨ m ∈ z.2.2.1 then none else some (1, z.2.1, z.2.2.1 ++ [m], z.2.2.2) := by unfold stL; rw [em]
      have G := g6.trans g7
      have el6' := g7 _ _ il6
      have hx6 := g7 _ _ is6
      refine ⟨fun b H' => H7 = H' ∧ (b = true ↔ (1 < z.1 ∨ m ∈ z.2.2.1)), ?_, ?_⟩
      · refine ⟨_, rfl, rfl, _, rfl, iteF ⟨_, rfl, l, _, _, .int 1, rfl, rfl, SqL.of el7, rfl, _, rfl, _, _, rfl, rfl, _, rfl, iteDd (fun c => ?_) (fun c => ?_)⟩⟩
        · exact ⟨rfl, fun _ => .inl (by omega), fun _ => rfl⟩
        refine ⟨_, rfl, l, _, _, .ref b7, rfl, rfl, SqL.of el7, rfl, _, rfl, _, rfl, l, _, _, .int 1, rfl, rfl, SqL.of el7, rfl, pl, _, _, .ref ps, rfl, rfl, SqL.of el6', rfl, dSt m, ps, zs, (z.2.2.1).map dSt, StV.rep ⟨b7, rfl, SqT.of eb7⟩, rfl, SqL.of hx6, reps_st (paired_mono (fun _ _ => StV.mono (Same.grow g7)) pS), Nat.le_trans (deeps_map dSt 1 deep_dSt _) (by decide), _, rfl, rfl, ?_⟩
        have ea : ((z.2.2.1).map dSt).any (fun e => eqD e (dSt m)) = true ↔ m ∈ z.2.2.1 := by rw [any_mem dSt eqD_dSt]; simp
        show (((z.2.2.1).map dSt).any (fun e => eqD e (dSt m))) = true ↔ _
        rw [ea]
        exact ⟨fun z => .inr z, fun z => z.elim (fun z => absurd z (by omega)) id⟩
      rintro b _ ⟨rfl, hb6⟩
      cases b with
      | true => exact iteT (bad (by rw [est, if_pos (hb6.mp rfl)]) _ G)
      | false =>
        have nb : ¬ (1 < z.1 ∨ m ∈ z.2.2.1) := fun z => Bool.false_ne_true (hb6.mpr z)
        rw [if_neg nb] at est
        have hlx : zs.length < sizeLine := szl' (by omega)
        have gt := grow_upd hx6 (.lst (zs ++ [.ref b7]))
        have gr := Grow.trans (Same.grow g7) gt
        refine iteF ⟨_, rfl, l, _, _, .int 1, rfl, rfl, SqL.of el7, rfl, _, rfl, _, rfl, pl, _, _, .ref ps, rfl, rfl, SqL.of el6', rfl, .inl ⟨rfl, _, SqL.of hx6⟩, _, rfl, l, _, _, .ref b7, rfl, rfl, SqL.of el7, rfl, ps, zs, .ref b7, rfl, rfl, hx6, hlx, ?_⟩
        refine ⟨same_updN G AP.ns, by omega, (1, z.2.1, z.2.2.1 ++ [m], z.2.2.2), (by show (1 : Nat) ≤ 2; decide), (by show z.2.1.length ≤ _; omega), (by rw [List.length_append, List.length_singleton]; omega), (by show z.2.2.2.length ≤ _; omega), ⟨_, _, rfl⟩, by rw [upd_ne (aps)]; exact g7 _ _ e6, by rw [upd_ne (hps_)]; exact g7 _ _ eh6, by rw [upd_ne lS]; exact el6', (fold_take hrow ez).trans est, zb, zs ++ [.ref b7], ze, by rw [upd_ne AP.bs]; exact g7 _ _ ib6, upd_same, by rw [upd_ne AP.se.symm]; exact g7 _ _ ie6, paired_mono (fun _ _ => MkV.mono gr) pB, paired_append (paired_mono (fun _ _ => StV.mono gr) pS) (.cons ⟨b7, rfl, gt.seqT (SqT.of eb7)⟩ .nil), paired_mono (fun _ _ => MkV.mono gr) pE⟩
  rintro σ H7 ⟨g7, _, z, z0, n1, n2, n3, ⟨x6, x7, rfl⟩, e6, eh6, il6, ez, zb, zs, ze, ib6, is6, ie6, pB, pS, pE⟩
  rw [List.length_map, List.take_length] at ez
  rw [ez] at eR
  refine ⟨_, rfl, lh, _, _, .str g, rfl, rfl, SqL.of eh6, rfl, _, rfl, _, rfl, pl, _, _, .ref pb, rfl, rfl, SqL.of il6, rfl, _, rfl, pl, _, _, .ref ps, rfl, rfl, SqL.of il6, rfl, _, rfl, pl, _, _, .ref pe, rfl, rfl, SqL.of il6, rfl, (by show 5 ≤ sizeLine; decide), fun v hv => ?_⟩
  have gv := same_new hv (.tup [V.str g, V.int r, V.ref pb, V.ref ps, V.ref pe])
  exact qs _ eR _ _ pb ps pe ((g4.trans g7).trans gv) ⟨v, zb, zs, ze, rfl, SqT.of upd_same, SqL.of (gv _ _ ib6), SqL.of (gv _ _ is6), SqL.of (gv _ _ ie6), paired_mono (fun _ _ => MkV.mono (Same.grow gv)) pB, paired_mono (fun _ _ => StV.mono (Same.grow gv)) pS, paired_mono (fun _ _ => MkV.mono (Same.grow gv)) pE⟩

theorem sc_law : FnScope ["_law_script", "_law_number_here", "_law_more", "_law_rows", "_law_text", "_law_due", "_law_found", "_law_error", "e"] ["_law_script"] (defScope s_law) := ⟨rfl, rfl, rfl, by decide +kernel, rfl, by decide +kernel, by decide +kernel⟩
theorem ok_law (B : Bi mg) {c_ScribeError c_NoWay c_NoRoom c_NotPlain c_OtherSigns c_TooMany c_TwoWays c_NeverPlain c_NoText : Addr} (XB : Xb K mg c_ScribeError c_NoWay c_NoRoom c_NotPlain c_OtherSigns c_TooMany c_TwoWays c_NeverPlain c_NoText) (C_law_mixed : Cal P w K mg base "_law_mixed" ["_law_cell", "_law_k"] 1 (spMixed)) (C_law_shown : Cal P w K mg base "_law_shown" ["_law_scribe"] 1 (spLS86 K)) (C_law_reader : Cal P w K mg base "_law_reader" ["_law_text"] 4 (spReader K)) (C_law_cell_at : Cal P w K mg base "_law_cell_at" ["_law_script", "_law_k"] 1 (spCell K)) (C_law_choices : Cal P w K mg base "_law_choices" ["_law_script", "_law_salt", "_law_most"] 3 (spDraw86 K)) (C_law_long : Cal P w K mg base "_law_long" ["_law_rows", "_law_more"] 1 (spLong K)) (C_law_rows_bent : Cal P w K mg base "_law_rows_bent" ["_law_rows", "_law_number_here", "_law_more"] 1 (spBent K)) (C_law_signs_bent : Cal P w K mg base "_law_signs_bent" ["_law_text", "_law_number_here", "_law_more"] 1 (spSigB)) (C_read_scribe : Cal1 P w K mg base "read_scribe" ["text"] 5 (spRead K c_NoText)) (C_law_alone : Cal P w K mg base "_law_alone" ["_law_error"] 1 (spAlone K c_NoText)) (C_law_is_scribe : Cal P w K mg base "_law_is_scribe" ["_law_found"] 2 (spIsScr K)) {f : Addr} {fd : FuncData} (F : Fun K "law" "law" s_law f fd) : FnOk P w K mg base CX0 6 f fd ["_law_script"] (spLaw K) := by
  refine F.ok sc_law (fun vs H Q E h => ?_) (fun cdv A outer s H vs Q E hr h => ?_)
  · obtain ⟨a, ns, rfl, _⟩ := h; rfl
  obtain ⟨a, ns, rfl, hS, h63, q⟩ := h
  refine ⟨_, (pss_cons (ps_set (i := 1) sc_law.nd rfl (Or.inl rfl) (pe_fn C_law_mixed hr (by decide : 1 ≤ 5) (by rfl) (pa_cons (pe_fn C_law_cell_at hr (by decide : 1 ≤ 5) (by rfl) (pa_cons (pv 0) (pa_cons pe_int pa_nil))) (pa_cons pe_int pa_nil))))
      (pss_cons (ps_set (i := 2) sc_law.nd rfl (Or.inl rfl) (pe_fn C_law_mixed hr (by decide : 1 ≤ 5) (by rfl) (pa_cons (pe_fn C_law_cell_at hr (by decide : 1 ≤ 5) (by rfl) (pa_cons (pv 0) (pa_cons pe_int pa_nil))) (pa_cons pe_int pa_nil))))
      (pss_cons (ps_set (i := 3) sc_law.nd rfl (Or.inl rfl) (pe_fn C_law_shown hr (by decide : 1 ≤ 5) (by rfl) (pa_cons (pe_fn C_law_choices hr (by decide : 3 ≤ 5) (by rfl) (pa_cons (pv 0) (pa_cons pe_int (pa_cons pe_int pa_nil)))) pa_nil)))
      (pss_mid (ps_if (pt_abs (PW.pt (pw_and (pt_cmpR op_eq (pe_op op_mod (pe_op op_fdiv (pv 1) pe_int) pe_int) pe_int (nomark _)) (pw_and1 (pt_cmpR op_gt (pe_callB (kLen (K := K)) (by rfl) B.len bt_len (pa_cons (pv 3) pa_nil)) pe_int (nomark _)))))) (pss_one (ps_set (i := 3) sc_law.nd rfl (Or.inl rfl) (pe_fn C_law_long hr (by decide : 1 ≤ 5) (by rfl) (pa_cons (pv 3) (pa_cons (pv 2) pa_nil))))) pss_nil)
      (pss_mid (ps_if (pt_cmpR op_gt (pe_op op_mod (pv 1) pe_int) pe_int (nomark _)) (pss_one (ps_set (i := 3) sc_law.nd rfl (Or.inl rfl) (pe_fn C_law_rows_bent hr (by decide : 1 ≤ 5) (by rfl) (pa_cons (pv 3) (pa_cons (pv 1) (pa_cons (pv 2) pa_nil)))))) pss_nil)
      (pss_cons (ps_set (i := 4) sc_law.nd rfl (Or.inl rfl) (kPE (K := K) (fun k => tBM k _ _ _ _) (pe_bm PySem.F.plainAttrs_str PySem.F.slot_str_join PySem.F.type_str_join mt_join pe_str (pa_cons (pv 3) pa_nil))))
      (pss_mid (ps_if (pt_abs (PW.pt (pw_and (pt_cmpR op_lt pe_int (pe_op op_mod (pv 1) pe_int) (nomark _)) (pw_and1 (pt_cmpR op_lt (pe_op op_mod (pv 1) pe_int) pe_int (nomark _)))))) (pss_one (ps_set (i := 4) sc_law.nd rfl (Or.inl rfl) (pe_fn C_law_signs_bent hr (by decide : 1 ≤ 5) (by rfl) (pa_cons (pv 4) (pa_cons (pv 1) (pa_cons (pv 2) pa_nil)))))) pss_nil)
      (pss_cons (ps_set (i := 5) sc_law.nd rfl (Or.inl rfl) (pe_fn C_law_reader hr (by decide : 4 ≤ 5) (by rfl) (pa_cons (pv 4) pa_nil)))
      (pss_cons (ps_set (i := 6) sc_law.nd rfl (Or.inl rfl) pe_non)
      (pss_cons (ps_set (i := 7) sc_law.nd rfl (Or.inl rfl) pe_non)
      (pss_cons (ps_try1 (iy := 6) (iz := 7) (ie := 8) rfl C_read_scribe hr (by decide : 5 ≤ 5) (by rfl) (pa_cons (pv 4) pa_nil) XB.cl_NoText (by rfl) rfl rfl rfl sc_law.nd rfl rfl rfl (Or.inl rfl) (Or.inl rfl) rfl (by decide))
      (pss_cons (ps_if (pt_cmpR op_isN (pv 5) pe_non (nomark _)) (pss_one (ps_ret (pe_fn C_law_alone hr (by decide : 1 ≤ 5) (by rfl) (pa_cons (pv 7) pa_nil)))) pss_nil)
      (pss_one (ps_ret (pe_and (pe_cmpR op_isN (pv 7) pe_non (nomark _)) (pe_and (pe_fn C_law_is_scribe hr (by decide : 2 ≤ 5) (by rfl) (pa_cons (pv 6) pa_nil)) (pe_one (pe_cmpR (kOp (K := K) rEqD (op_eqD hr.units)) (pv 6) (pv 5) (nomark _))))))))))))))))))), ?_⟩
  refine ⟨_, rfl, a, ns, 0, rfl, hS, by decide, _, _, rfl, fun n n0 n1 => ?_⟩
  refine ⟨_, rfl, a, ns, 1, rfl, hS, by decide, _, _, rfl, fun m m0 m1 => ?_⟩
  refine ⟨_, rfl, a, ns, 1000, 12, rfl, hS, h63, by decide, by decide, by decide, by decide, fun v H1 s pb ps pe g1 hV ok => ?_⟩
  refine ⟨v, s, pb, ps, pe, rfl, hV, ok, fun l H2 g2 hl el => ?_⟩
  refine ⟨fun σ' H' => ∃ l rows, σ' = [some (.ref a), some (.int n), some (.int m), some (.ref l), none, none, none, none, none] ∧ H' l = some (.lst (rows.map V.str)) ∧ Rws 46 3276 520 rows ∧ ∃ r, r ∈ rows ∧ 1 ≤ r.length, ?_, ?_⟩
  · refine ⟨fun b H' => H2 = H' ∧ (b = true → 1 < (rowsOf s).length), ?_, ?_⟩
    · refine ⟨_, rfl, _, _, rfl, rfl, ⟨by decide, by decide⟩, _, _, rfl, rfl, pz, rfl, _, rfl, iteDd (fun c => ?_) (fun c => ⟨rfl, fun z => absurd z Bool.false_ne_true⟩)⟩
      refine ⟨_, rfl, l, _, rfl, .inl (SqL.of el), _, _, rfl, rfl, _, rfl, rfl, fun z => ?_⟩
      have z := of_decide_eq_true z
      rw [List.length_map] at z
      omega
    rintro b _ ⟨rfl, hb⟩
    cases b with
    | false => exact iteF ⟨l, rowsOf s, rfl, el, Rws.wide ok, head_row ok⟩
    | true => exact iteT ⟨_, rfl, _, rfl, l, s, m, rfl, SqL.of el, ok, hb rfl, m0, m1, fun l3 rows H3 g3 e3 rk hh => ⟨l3, rows, rfl, e3, rk, hh⟩⟩
  rintro _ H3 ⟨l, rows, rfl, el, rk, hh⟩
  refine ⟨fun σ' H' => ∃ l rows, σ' = [some (.ref a), some (.int n), some (.int m), some (.ref l), none, none, none, none, none] ∧ H' l = some (.lst (rows.map V.str)) ∧ Rws 47 3800 1100 rows ∧ (n % 12 < 7 → ∃ r, r ∈ rows ∧ 1 ≤ r.length), ?_, ?_⟩
  · refine ⟨_, rfl, _, _, rfl, rfl, pz, _, _, rfl, rfl, _, rfl, iteDd (fun c => ?_) (fun c => ⟨l, rows, rfl, el, rk.weak, fun _ => hh⟩)⟩
    have c : 6 < n % 12 := c
    exact ⟨_, rfl, _, rfl, _, rfl, l, rows, n, m, rfl, SqL.of el, rk, n0, n1, m0, m1, fun l4 rows4 H4 g4 e4 rk4 => ⟨l4, rows4, rfl, e4, rk4, fun z => absurd z (by omega)⟩⟩
  rintro _ H4 ⟨l, rows, rfl, el, rk, hh⟩
  have l1 := rk.l1
  have sm := rk.sm
  have hj := join_nl rows
  have e1 : (Str.ofString "\n").length = 1 := by decide +kernel
  refine ⟨rfl, _, rfl, Str.ofString "\n", l, rows, rfl, rfl, SqL.of el, by rw [e1]; omega, ?_⟩
  have hp : n % 12 < 7 → 1 ≤ (Txt.join (Str.ofString "\n") rows).length := fun z => join_pos (hh z)
  generalize Txt.join (Str.ofString "\n") rows = x at hj hp ⊢
  refine ⟨fun σ' H' => ∃ y : Str, σ' = [some (.ref a), some (.int n), some (.int m), some (.ref l), some (.str y), none, none, none, none] ∧ y.length ≤ 3900, ?_, ?_⟩
  · refine ⟨fun b H' => H4 = H' ∧ (b = true → n % 12 < 7), ?_, ?_⟩
    · refine ⟨_, rfl, _, _, rfl, rfl, pz, _, _, rfl, rfl, _, rfl, iteDd (fun c => ?_) (fun c => ⟨rfl, fun z => absurd z Bool.false_ne_true⟩)⟩
      exact ⟨_, rfl, _, _, rfl, rfl, pz, _, _, rfl, rfl, _, rfl, rfl, fun z => of_decide_eq_true z⟩
    rintro b _ ⟨rfl, hb⟩
    cases b with
    | false => exact iteF ⟨x, rfl, by omega⟩
    | true => exact iteT ⟨_, rfl, _, rfl, _, rfl, x, n, m, rfl, hp (hb rfl), by omega, n0, n1, m0, m1, fun y hy => ⟨y, rfl, by omega⟩⟩
  rintro _ H5 ⟨y, rfl, hy⟩
  refine ⟨_, rfl, y, rfl, hy, fun en H6 g6 => ?_, fun s2 es v2 H6 pb2 ps2 pe2 g6 hV2 => ?_⟩
  · refine ⟨_, rfl, y, rfl, hy, fun s3 es3 => (by rw [en] at es3; cases es3), fun _ H7 g7 => ⟨c_NoText, rfl, XB.sub_NoText_NoText, fun xc hxc => ?_⟩⟩
    exact ⟨_, rfl, rfl, _, rfl, iteT ⟨_, rfl, xc, rfl, upd_same, fun H8 g8 => q _⟩⟩
  · refine ⟨_, rfl, y, rfl, hy, fun s3 es3 ok3 v3 H7 pb3 ps3 pe3 g7 hN3 _ => ?_, fun en => (by rw [es] at en; cases en)⟩
    rw [es] at es3
    injection es3 with es3
    subst es3
    have hV3 := hN3.v
    have hV2' := hV2.mono g7
    have d1 : deep (dScr s2) ≤ 60 := Nat.le_trans (deep_dScr _) (by decide)
    obtain ⟨a2, xb2, xs2, xe2, rfl, _⟩ := id hV2
    refine ⟨_, rfl, rfl, _, rfl, iteF ?_⟩
    refine ⟨_, rfl, rfl, _, rfl, iteT ?_⟩
    refine ⟨_, rfl, v3, s2, pb3, ps3, pe3, rfl, hV3, fun H8 g8 => ⟨_, rfl, iteT ?_⟩⟩
    refine ⟨_, rfl, _, rfl, dScr s2, dScr s2, (hV3.mono g8).rep, (hV2'.mono g8).rep, d1, ?_⟩
    rw [eqD_refl]
    exact q _

end
theorem len_1 {α : Type} : ∀ {us : List α} (_ : us.length = 1), ∃ u0, us = [u0]
  | [u0], _ => ⟨u0, rfl⟩
theorem len_2 {α : Type} : ∀ {us : List α} (_ : us.length = 2), ∃ u0 u1, us = [u0, u1]
  | [u0, u1], _ => ⟨u0, u1, rfl⟩
theorem len_3 {α : Type} : ∀ {us : List α} (_ : us.length = 3), ∃ u0 u1 u2, us = [u0, u1, u2]
  | [u0, u1, u2], _ => ⟨u0, u1, u2, rfl⟩
theorem all_mk {l : PySem.W.OpenLaw} {w : World} {K : PySem.W.Frag} {h : Heap} {mg : Str → Option Value} {fa f0 f1 f2 f3 f4 f5 f6 f7 f8 f9 f10 f11 f12 f13 f14 f15 f16 f17 f18 f19 f20 f21 f22 f23 f24 f25 f26 f27 f28 f29 f30 f31 f32 f33 f34 f35 f36 f37 f38 f39 c_ScribeError c_NoWay c_NoRoom c_NotPlain c_OtherSigns c_TooMany c_TwoWays c_NeverPlain c_NoText : Addr} (X : K.In h) (G : h.Ns mainGlobals mg) (hfa : mg "law" = some (.ref fa))
    {od0 an0 od1 an1 od2 an2 od3 an3 od4 an4 od5 an5 od6 an6 od7 an7 od8 an8 od9 an9 od10 an10 od11 an11 od12 an12 od13 an13 od14 an14 od15 an15 od16 an16 od17 an17 od18 an18 od19 an19 od20 an20 od21 an21 od22 an22 od23 an23 od24 an24 od25 an25 od26 an26 od27 an27 od28 an28 od29 an29 od30 an30 od31 an31 od32 an32 od33 an33 od34 an34 od35 an35 od36 an36 od37 an37 od38 an38 od39 an39 : Option Addr} {sl0 sl1 sl2 sl3 sl4 sl5 sl6 sl7 sl8 sl9 sl10 sl11 sl12 sl13 sl14 sl15 sl16 sl17 sl18 sl19 sl20 sl21 sl22 sl23 sl24 sl25 sl26 sl27 sl28 sl29 sl30 sl31 sl32 sl33 sl34 sl35 sl36 sl37 sl38 sl39 : Array (Option Value)} {oc0 kV0 dc0 pm0 cd0 ct0 oc1 kV1 dc1 pm1 cd1 ct1 oc2 kV2 dc2 pm2 cd2 ct2 oc3 kV3 dc3 pm3 cd3 ct3 oc4 kV4 dc4 pm4 cd4 ct4 oc5 kV5 dc5 pm5 cd5 ct5 oc6 kV6 dc6 pm6 cd6 ct6 oc7 kV7 dc7 pm7 cd7 ct7 oc8 kV8 dc8 pm8 cd8 ct8 oc9 kV9 dc9 pm9 cd9 ct9 oc10 kV10 dc10 pm10 cd10 ct10 oc11 kV11 dc11 pm11 cd11 ct11 oc12 kV12 dc12 pm12 cd12 ct12 oc13 kV13 dc13 pm13 cd13 ct13 oc14 kV14 dc14 pm14 cd14 ct14 oc15 kV15 dc15 pm15 cd15 ct15 oc16 kV16 dc16 pm16 cd16 ct16 oc17 kV17 dc17 pm17 cd17 ct17 oc18 kV18 dc18 pm18 cd18 ct18 oc19 kV19 dc19 pm19 cd19 ct19 oc20 kV20 dc20 pm20 cd20 ct20 oc21 kV21 dc21 pm21 cd21 ct21 oc22 kV22 dc22 pm22 cd22 ct22 oc23 kV23 dc23 pm23 cd23 ct23 oc24 kV24 dc24 pm24 cd24 ct24 oc25 kV25 dc25 pm25 cd25 ct25 oc26 kV26 dc26 pm26 cd26 ct26 oc27 kV27 dc27 pm27 cd27 ct27 oc28 kV28 dc28 pm28 cd28 ct28 oc29 kV29 dc29 pm29 cd29 ct29 oc30 kV30 dc30 pm30 cd30 ct30 oc31 kV31 dc31 pm31 cd31 ct31 oc32 kV32 dc32 pm32 cd32 ct32 oc33 kV33 dc33 pm33 cd33 ct33 oc34 kV34 dc34 pm34 cd34 ct34 oc35 kV35 dc35 pm35 cd35 ct35 oc36 kV36 dc36 pm36 cd36 ct36 oc37 kV37 dc37 pm37 cd37 ct37 oc38 kV38 dc38 pm38 cd38 ct38 oc39 kV39 dc39 pm39 cd39 ct39 : Value}
    (a0 : PySem.W.nsIn K mainGlobals "is_tuple_of" = some (some (.ref f0))) (l0 : K.lookup f0 = some ⟨oc0, od0, .func (PySem.W.fnOf "is_tuple_of" "is_tuple_of" (defArgs s_is_tuple_of) (defBody s_is_tuple_of) (defScope s_is_tuple_of) .none kV0 dc0 pm0 an0 cd0 ct0), sl0⟩) (c0 : PySem.W.codeIn K cd0 "is_tuple_of" = true) (k0 : PySem.W.keepIn K (.ref f0) = true)
    (a1 : PySem.W.nsIn K mainGlobals "is_number_below" = some (some (.ref f1))) (l1 : K.lookup f1 = some ⟨oc1, od1, .func (PySem.W.fnOf "is_number_below" "is_number_below" (defArgs s_is_number_below) (defBody s_is_number_below) (defScope s_is_number_below) .none kV1 dc1 pm1 an1 cd1 ct1), sl1⟩) (c1 : PySem.W.codeIn K cd1 "is_number_below" = true) (k1 : PySem.W.keepIn K (.ref f1) = true)
    (a2 : PySem.W.nsIn K mainGlobals "is_word" = some (some (.ref f2))) (l2 : K.lookup f2 = some ⟨oc2, od2, .func (PySem.W.fnOf "is_word" "is_word" (defArgs s_is_word) (defBody s_is_word) (defScope s_is_word) .none kV2 dc2 pm2 an2 cd2 ct2), sl2⟩) (c2 : PySem.W.codeIn K cd2 "is_word" = true) (k2 : PySem.W.keepIn K (.ref f2) = true)
    (a3 : PySem.W.nsIn K mainGlobals "all_unlike" = some (some (.ref f3))) (l3 : K.lookup f3 = some ⟨oc3, od3, .func (PySem.W.fnOf "all_unlike" "all_unlike" (defArgs s_all_unlike) (defBody s_all_unlike) (defScope s_all_unlike) .none kV3 dc3 pm3 an3 cd3 ct3), sl3⟩) (c3 : PySem.W.codeIn K cd3 "all_unlike" = true) (k3 : PySem.W.keepIn K (.ref f3) = true)
    (a4 : PySem.W.nsIn K mainGlobals "are_signs" = some (some (.ref f4))) (l4 : K.lookup f4 = some ⟨oc4, od4, .func (PySem.W.fnOf "are_signs" "are_signs" (defArgs s_are_signs) (defBody s_are_signs) (defScope s_are_signs) .none kV4 dc4 pm4 an4 cd4 ct4), sl4⟩) (c4 : PySem.W.codeIn K cd4 "are_signs" = true) (k4 : PySem.W.keepIn K (.ref f4) = true)
    (a5 : PySem.W.nsIn K mainGlobals "is_mark" = some (some (.ref f5))) (l5 : K.lookup f5 = some ⟨oc5, od5, .func (PySem.W.fnOf "is_mark" "is_mark" (defArgs s_is_mark) (defBody s_is_mark) (defScope s_is_mark) .none kV5 dc5 pm5 an5 cd5 ct5), sl5⟩) (c5 : PySem.W.codeIn K cd5 "is_mark" = true) (k5 : PySem.W.keepIn K (.ref f5) = true)
    (a6 : PySem.W.nsIn K mainGlobals "is_step" = some (some (.ref f6))) (l6 : K.lookup f6 = some ⟨oc6, od6, .func (PySem.W.fnOf "is_step" "is_step" (defArgs s_is_step) (defBody s_is_step) (defScope s_is_step) .none kV6 dc6 pm6 an6 cd6 ct6), sl6⟩) (c6 : PySem.W.codeIn K cd6 "is_step" = true) (k6 : PySem.W.keepIn K (.ref f6) = true)
    (a7 : PySem.W.nsIn K mainGlobals "are_marks" = some (some (.ref f7))) (l7 : K.lookup f7 = some ⟨oc7, od7, .func (PySem.W.fnOf "are_marks" "are_marks" (defArgs s_are_marks) (defBody s_are_marks) (defScope s_are_marks) .none kV7 dc7 pm7 an7 cd7 ct7), sl7⟩) (c7 : PySem.W.codeIn K cd7 "are_marks" = true) (k7 : PySem.W.keepIn K (.ref f7) = true)
    (a8 : PySem.W.nsIn K mainGlobals "are_steps" = some (some (.ref f8))) (l8 : K.lookup f8 = some ⟨oc8, od8, .func (PySem.W.fnOf "are_steps" "are_steps" (defArgs s_are_steps) (defBody s_are_steps) (defScope s_are_steps) .none kV8 dc8 pm8 an8 cd8 ct8), sl8⟩) (c8 : PySem.W.codeIn K cd8 "are_steps" = true) (k8 : PySem.W.keepIn K (.ref f8) = true)
    (a9 : PySem.W.nsIn K mainGlobals "is_scribe" = some (some (.ref f9))) (l9 : K.lookup f9 = some ⟨oc9, od9, .func (PySem.W.fnOf "is_scribe" "is_scribe" (defArgs s_is_scribe) (defBody s_is_scribe) (defScope s_is_scribe) .none kV9 dc9 pm9 an9 cd9 ct9), sl9⟩) (c9 : PySem.W.codeIn K cd9 "is_scribe" = true) (k9 : PySem.W.keepIn K (.ref f9) = true)
    (a10 : PySem.W.nsIn K mainGlobals "shown_word" = some (some (.ref f10))) (l10 : K.lookup f10 = some ⟨oc10, od10, .func (PySem.W.fnOf "shown_word" "shown_word" (defArgs s_shown_word) (defBody s_shown_word) (defScope s_shown_word) .none kV10 dc10 pm10 an10 cd10 ct10), sl10⟩) (c10 : PySem.W.codeIn K cd10 "shown_word" = true) (k10 : PySem.W.keepIn K (.ref f10) = true)
    (a11 : PySem.W.nsIn K mainGlobals "shown_mark" = some (some (.ref f11))) (l11 : K.lookup f11 = some ⟨oc11, od11, .func (PySem.W.fnOf "shown_mark" "shown_mark" (defArgs s_shown_mark) (defBody s_shown_mark) (defScope s_shown_mark) .none kV11 dc11 pm11 an11 cd11 ct11), sl11⟩) (c11 : PySem.W.codeIn K cd11 "shown_mark" = true) (k11 : PySem.W.keepIn K (.ref f11) = true)
    (a12 : PySem.W.nsIn K mainGlobals "shown_step" = some (some (.ref f12))) (l12 : K.lookup f12 = some ⟨oc12, od12, .func (PySem.W.fnOf "shown_step" "shown_step" (defArgs s_shown_step) (defBody s_shown_step) (defScope s_shown_step) .none kV12 dc12 pm12 an12 cd12 ct12), sl12⟩) (c12 : PySem.W.codeIn K cd12 "shown_step" = true) (k12 : PySem.W.keepIn K (.ref f12) = true)
    (a13 : PySem.W.nsIn K mainGlobals "shown_scribe" = some (some (.ref f13))) (l13 : K.lookup f13 = some ⟨oc13, od13, .func (PySem.W.fnOf "shown_scribe" "shown_scribe" (defArgs s_shown_scribe) (defBody s_shown_scribe) (defScope s_shown_scribe) .none kV13 dc13 pm13 an13 cd13 ct13), sl13⟩) (c13 : PySem.W.codeIn K cd13 "shown_scribe" = true) (k13 : PySem.W.keepIn K (.ref f13) = true)
    (a14 : PySem.W.nsIn K mainGlobals "read_parts" = some (some (.ref f14))) (l14 : K.lookup f14 = some ⟨oc14, od14, .func (PySem.W.fnOf "read_parts" "read_parts" (defArgs s_read_parts) (defBody s_read_parts) (defScope s_read_parts) .none kV14 dc14 pm14 an14 cd14 ct14), sl14⟩) (c14 : PySem.W.codeIn K cd14 "read_parts" = true) (k14 : PySem.W.keepIn K (.ref f14) = true)
    (a15 : PySem.W.nsIn K mainGlobals "read_number" = some (some (.ref f15))) (l15 : K.lookup f15 = some ⟨oc15, od15, .func (PySem.W.fnOf "read_number" "read_number" (defArgs s_read_number) (defBody s_read_number) (defScope s_read_number) .none kV15 dc15 pm15 an15 cd15 ct15), sl15⟩) (c15 : PySem.W.codeIn K cd15 "read_number" = true) (k15 : PySem.W.keepIn K (.ref f15) = true)
    (a16 : PySem.W.nsIn K mainGlobals "read_word" = some (some (.ref f16))) (l16 : K.lookup f16 = some ⟨oc16, od16, .func (PySem.W.fnOf "read_word" "read_word" (defArgs s_read_word) (defBody s_read_word) (defScope s_read_word) .none kV16 dc16 pm16 an16 cd16 ct16), sl16⟩) (c16 : PySem.W.codeIn K cd16 "read_word" = true) (k16 : PySem.W.keepIn K (.ref f16) = true)
    (a17 : PySem.W.nsIn K mainGlobals "read_mark" = some (some (.ref f17))) (l17 : K.lookup f17 = some ⟨oc17, od17, .func (PySem.W.fnOf "read_mark" "read_mark" (defArgs s_read_mark) (defBody s_read_mark) (defScope s_read_mark) .none kV17 dc17 pm17 an17 cd17 ct17), sl17⟩) (c17 : PySem.W.codeIn K cd17 "read_mark" = true) (k17 : PySem.W.keepIn K (.ref f17) = true)
    (a18 : PySem.W.nsIn K mainGlobals "read_step" = some (some (.ref f18))) (l18 : K.lookup f18 = some ⟨oc18, od18, .func (PySem.W.fnOf "read_step" "read_step" (defArgs s_read_step) (defBody s_read_step) (defScope s_read_step) .none kV18 dc18 pm18 an18 cd18 ct18), sl18⟩) (c18 : PySem.W.codeIn K cd18 "read_step" = true) (k18 : PySem.W.keepIn K (.ref f18) = true)
    (a19 : PySem.W.nsIn K mainGlobals "read_rows" = some (some (.ref f19))) (l19 : K.lookup f19 = some ⟨oc19, od19, .func (PySem.W.fnOf "read_rows" "read_rows" (defArgs s_read_rows) (defBody s_read_rows) (defScope s_read_rows) .none kV19 dc19 pm19 an19 cd19 ct19), sl19⟩) (c19 : PySem.W.codeIn K cd19 "read_rows" = true) (k19 : PySem.W.keepIn K (.ref f19) = true)
    (a20 : PySem.W.nsIn K mainGlobals "read_scribe" = some (some (.ref f20))) (l20 : K.lookup f20 = some ⟨oc20, od20, .func (PySem.W.fnOf "read_scribe" "read_scribe" (defArgs s_read_scribe) (defBody s_read_scribe) (defScope s_read_scribe) .none kV20 dc20 pm20 an20 cd20 ct20), sl20⟩) (c20 : PySem.W.codeIn K cd20 "read_scribe" = true) (k20 : PySem.W.keepIn K (.ref f20) = true)
    (a21 : PySem.W.nsIn K mainGlobals "_law_cell_at" = some (some (.ref f21))) (l21 : K.lookup f21 = some ⟨oc21, od21, .func (PySem.W.fnOf "_law_cell_at" "_law_cell_at" (defArgs s_law_cell_at) (defBody s_law_cell_at) (defScope s_law_cell_at) .none kV21 dc21 pm21 an21 cd21 ct21), sl21⟩) (c21 : PySem.W.codeIn K cd21 "_law_cell_at" = true) (k21 : PySem.W.keepIn K (.ref f21) = true)
    (a22 : PySem.W.nsIn K mainGlobals "_law_whole" = some (some (.ref f22))) (l22 : K.lookup f22 = some ⟨oc22, od22, .func (PySem.W.fnOf "_law_whole" "_law_whole" (defArgs s_law_whole) (defBody s_law_whole) (defScope s_law_whole) .none kV22 dc22 pm22 an22 cd22 ct22), sl22⟩) (c22 : PySem.W.codeIn K cd22 "_law_whole" = true) (k22 : PySem.W.keepIn K (.ref f22) = true)
    (a23 : PySem.W.nsIn K mainGlobals "_law_mixed" = some (some (.ref f23))) (l23 : K.lookup f23 = some ⟨oc23, od23, .func (PySem.W.fnOf "_law_mixed" "_law_mixed" (defArgs s_law_mixed) (defBody s_law_mixed) (defScope s_law_mixed) .none kV23 dc23 pm23 an23 cd23 ct23), sl23⟩) (c23 : PySem.W.codeIn K cd23 "_law_mixed" = true) (k23 : PySem.W.keepIn K (.ref f23) = true)
    (a24 : PySem.W.nsIn K mainGlobals "_law_word" = some (some (.ref f24))) (l24 : K.lookup f24 = some ⟨oc24, od24, .func (PySem.W.fnOf "_law_word" "_law_word" (defArgs s_law_word) (defBody s_law_word) (defScope s_law_word) .none kV24 dc24 pm24 an24 cd24 ct24), sl24⟩) (c24 : PySem.W.codeIn K cd24 "_law_word" = true) (k24 : PySem.W.keepIn K (.ref f24) = true)
    (a25 : PySem.W.nsIn K mainGlobals "_law_signs" = some (some (.ref f25))) (l25 : K.lookup f25 = some ⟨oc25, od25, .func (PySem.W.fnOf "_law_signs" "_law_signs" (defArgs s_law_signs) (defBody s_law_signs) (defScope s_law_signs) .none kV25 dc25 pm25 an25 cd25 ct25), sl25⟩) (c25 : PySem.W.codeIn K cd25 "_law_signs" = true) (k25 : PySem.W.keepIn K (.ref f25) = true)
    (a26 : PySem.W.nsIn K mainGlobals "_law_rest" = some (some (.ref f26))) (l26 : K.lookup f26 = some ⟨oc26, od26, .func (PySem.W.fnOf "_law_rest" "_law_rest" (defArgs s_law_rest) (defBody s_law_rest) (defScope s_law_rest) .none kV26 dc26 pm26 an26 cd26 ct26), sl26⟩) (c26 : PySem.W.codeIn K cd26 "_law_rest" = true) (k26 : PySem.W.keepIn K (.ref f26) = true)
    (a27 : PySem.W.nsIn K mainGlobals "_law_choices" = some (some (.ref f27))) (l27 : K.lookup f27 = some ⟨oc27, od27, .func (PySem.W.fnOf "_law_choices" "_law_choices" (defArgs s_law_choices) (defBody s_law_choices) (defScope s_law_choices) .none kV27 dc27 pm27 an27 cd27 ct27), sl27⟩) (c27 : PySem.W.codeIn K cd27 "_law_choices" = true) (k27 : PySem.W.keepIn K (.ref f27) = true)
    (a28 : PySem.W.nsIn K mainGlobals "_law_is_scribe" = some (some (.ref f28))) (l28 : K.lookup f28 = some ⟨oc28, od28, .func (PySem.W.fnOf "_law_is_scribe" "_law_is_scribe" (defArgs s_law_is_scribe) (defBody s_law_is_scribe) (defScope s_law_is_scribe) .none kV28 dc28 pm28 an28 cd28 ct28), sl28⟩) (c28 : PySem.W.codeIn K cd28 "_law_is_scribe" = true) (k28 : PySem.W.keepIn K (.ref f28) = true)
    (a29 : PySem.W.nsIn K mainGlobals "_law_shown" = some (some (.ref f29))) (l29 : K.lookup f29 = some ⟨oc29, od29, .func (PySem.W.fnOf "_law_shown" "_law_shown" (defArgs s_law_shown) (defBody s_law_shown) (defScope s_law_shown) .none kV29 dc29 pm29 an29 cd29 ct29), sl29⟩) (c29 : PySem.W.codeIn K cd29 "_law_shown" = true) (k29 : PySem.W.keepIn K (.ref f29) = true)
    (a30 : PySem.W.nsIn K mainGlobals "_law_alone" = some (some (.ref f30))) (l30 : K.lookup f30 = some ⟨oc30, od30, .func (PySem.W.fnOf "_law_alone" "_law_alone" (defArgs s_law_alone) (defBody s_law_alone) (defScope s_law_alone) .none kV30 dc30 pm30 an30 cd30 ct30), sl30⟩) (c30 : PySem.W.codeIn K cd30 "_law_alone" = true) (k30 : PySem.W.keepIn K (.ref f30) = true)
    (a31 : PySem.W.nsIn K mainGlobals "_law_signs_bent" = some (some (.ref f31))) (l31 : K.lookup f31 = some ⟨oc31, od31, .func (PySem.W.fnOf "_law_signs_bent" "_law_signs_bent" (defArgs s_law_signs_bent) (defBody s_law_signs_bent) (defScope s_law_signs_bent) .none kV31 dc31 pm31 an31 cd31 ct31), sl31⟩) (c31 : PySem.W.codeIn K cd31 "_law_signs_bent" = true) (k31 : PySem.W.keepIn K (.ref f31) = true)
    (a32 : PySem.W.nsIn K mainGlobals "_law_rows_bent" = some (some (.ref f32))) (l32 : K.lookup f32 = some ⟨oc32, od32, .func (PySem.W.fnOf "_law_rows_bent" "_law_rows_bent" (defArgs s_law_rows_bent) (defBody s_law_rows_bent) (defScope s_law_rows_bent) .none kV32 dc32 pm32 an32 cd32 ct32), sl32⟩) (c32 : PySem.W.codeIn K cd32 "_law_rows_bent" = true) (k32 : PySem.W.keepIn K (.ref f32) = true)
    (a33 : PySem.W.nsIn K mainGlobals "_law_long" = some (some (.ref f33))) (l33 : K.lookup f33 = some ⟨oc33, od33, .func (PySem.W.fnOf "_law_long" "_law_long" (defArgs s_law_long) (defBody s_law_long) (defScope s_law_long) .none kV33 dc33 pm33 an33 cd33 ct33), sl33⟩) (c33 : PySem.W.codeIn K cd33 "_law_long" = true) (k33 : PySem.W.keepIn K (.ref f33) = true)
    (a34 : PySem.W.nsIn K mainGlobals "_law_number" = some (some (.ref f34))) (l34 : K.lookup f34 = some ⟨oc34, od34, .func (PySem.W.fnOf "_law_number" "_law_number" (defArgs s_law_number) (defBody s_law_number) (defScope s_law_number) .none kV34 dc34 pm34 an34 cd34 ct34), sl34⟩) (c34 : PySem.W.codeIn K cd34 "_law_number" = true) (k34 : PySem.W.keepIn K (.ref f34) = true)
    (a35 : PySem.W.nsIn K mainGlobals "_law_letters" = some (some (.ref f35))) (l35 : K.lookup f35 = some ⟨oc35, od35, .func (PySem.W.fnOf "_law_letters" "_law_letters" (defArgs s_law_letters) (defBody s_law_letters) (defScope s_law_letters) .none kV35 dc35 pm35 an35 cd35 ct35), sl35⟩) (c35 : PySem.W.codeIn K cd35 "_law_letters" = true) (k35 : PySem.W.keepIn K (.ref f35) = true)
    (a36 : PySem.W.nsIn K mainGlobals "_law_pair" = some (some (.ref f36))) (l36 : K.lookup f36 = some ⟨oc36, od36, .func (PySem.W.fnOf "_law_pair" "_law_pair" (defArgs s_law_pair) (defBody s_law_pair) (defScope s_law_pair) .none kV36 dc36 pm36 an36 cd36 ct36), sl36⟩) (c36 : PySem.W.codeIn K cd36 "_law_pair" = true) (k36 : PySem.W.keepIn K (.ref f36) = true)
    (a37 : PySem.W.nsIn K mainGlobals "_law_row" = some (some (.ref f37))) (l37 : K.lookup f37 = some ⟨oc37, od37, .func (PySem.W.fnOf "_law_row" "_law_row" (defArgs s_law_row) (defBody s_law_row) (defScope s_law_row) .none kV37 dc37 pm37 an37 cd37 ct37), sl37⟩) (c37 : PySem.W.codeIn K cd37 "_law_row" = true) (k37 : PySem.W.keepIn K (.ref f37) = true)
    (a38 : PySem.W.nsIn K mainGlobals "_law_reader" = some (some (.ref f38))) (l38 : K.lookup f38 = some ⟨oc38, od38, .func (PySem.W.fnOf "_law_reader" "_law_reader" (defArgs s_law_reader) (defBody s_law_reader) (defScope s_law_reader) .none kV38 dc38 pm38 an38 cd38 ct38), sl38⟩) (c38 : PySem.W.codeIn K cd38 "_law_reader" = true) (k38 : PySem.W.keepIn K (.ref f38) = true)
    (a39 : PySem.W.nsIn K mainGlobals "law" = some (some (.ref f39))) (l39 : K.lookup f39 = some ⟨oc39, od39, .func (PySem.W.fnOf "law" "law" (defArgs s_law) (defBody s_law) (defScope s_law) .none kV39 dc39 pm39 an39 cd39 ct39), sl39⟩) (c39 : PySem.W.codeIn K cd39 "law" = true) (k39 : PySem.W.keepIn K (.ref f39) = true)
    (z0 : PySem.W.nsIn K mainGlobals "ValueError" = some none)
    (z1 : PySem.W.nsIn K mainGlobals "all" = some none)
    (z2 : PySem.W.nsIn K mainGlobals "bool" = some none)
    (z3 : PySem.W.nsIn K mainGlobals "int" = some none)
    (z4 : PySem.W.nsIn K mainGlobals "isinstance" = some none)
    (z5 : PySem.W.nsIn K mainGlobals "len" = some none)
    (z6 : PySem.W.nsIn K mainGlobals "list" = some none)
    (z7 : PySem.W.nsIn K mainGlobals "max" = some none)
    (z8 : PySem.W.nsIn K mainGlobals "min" = some none)
    (z9 : PySem.W.nsIn K mainGlobals "range" = some none)
    (z10 : PySem.W.nsIn K mainGlobals "set" = some none)
    (z11 : PySem.W.nsIn K mainGlobals "str" = some none)
    (z12 : PySem.W.nsIn K mainGlobals "tuple" = some none)
    (z13 : PySem.W.nsIn K mainGlobals "zip" = some none)
    {gt0 : Tok} (g0 : PySem.W.nsIn K mainGlobals "BEGINS" = some (some (.int 2 gt0)))
    {gt1 : Tok} (g1 : PySem.W.nsIn K mainGlobals "EMPTY_WORD" = some (some (.str "-" gt1)))
    {gt2 : Tok} (g2 : PySem.W.nsIn K mainGlobals "ENDS" = some (some (.int 4 gt2)))
    {gt3 : Tok} (g3 : PySem.W.nsIn K mainGlobals "MOST_ROOMS" = some (some (.int 200 gt3)))
    {gt4 : Tok} (g4 : PySem.W.nsIn K mainGlobals "ROOMS" = some (some (.int 1 gt4)))
    {gt5 : Tok} (g5 : PySem.W.nsIn K mainGlobals "SIGNS" = some (some (.int 0 gt5)))
    {gt6 : Tok} (g6 : PySem.W.nsIn K mainGlobals "STEPS" = some (some (.int 3 gt6)))
    (x0 : PySem.W.nsIn K mainGlobals "ScribeError" = some (some (.ref c_ScribeError)))
    (x1 : PySem.W.nsIn K mainGlobals "NoWay" = some (some (.ref c_NoWay)))
    (x2 : PySem.W.nsIn K mainGlobals "NoRoom" = some (some (.ref c_NoRoom)))
    (x3 : PySem.W.nsIn K mainGlobals "NotPlain" = some (some (.ref c_NotPlain)))
    (x4 : PySem.W.nsIn K mainGlobals "OtherSigns" = some (some (.ref c_OtherSigns)))
    (x5 : PySem.W.nsIn K mainGlobals "TooMany" = some (some (.ref c_TooMany)))
    (x6 : PySem.W.nsIn K mainGlobals "TwoWays" = some (some (.ref c_TwoWays)))
    (x7 : PySem.W.nsIn K mainGlobals "NeverPlain" = some (some (.ref c_NeverPlain)))
    (x8 : PySem.W.nsIn K mainGlobals "NoText" = some (some (.ref c_NoText)))
    (x9 : PySem.W.excIn K c_NoText bmV "ValueError.__new__" = true)
    (x10 : PySem.W.findIn K (.ref c_NoText) "__getattribute__" = some (some (.builtin "BaseException.__getattribute__")))
    (x11 : PySem.W.findIn K (.ref c_NoText) "__getattr__" = some none)
    (x12 : PySem.W.mroIn K c_NoText (.type "BaseException") = some true)
    (x13 : (PySem.W.clsIn K c_NoText).isSome = true)
    (x14 : PySem.W.findIn K (.ref c_NoText) "__class__" = some (some (.builtin "object.__class__")))
    (x15 : PySem.W.specialIn K (.builtin "object.__class__") "__get__" = some (some (.builtin "getset_descriptor.__get__")))
    (x16 : PySem.W.takesIn K (.builtin "object.__class__") = some true)
    (x17 : PySem.W.mroIn K c_NoText (.type "object") = some true)
    (x18 : PySem.W.typeIn K (.ref c_NoText) = some (.type "type"))
    (x19 : (PySem.W.clsIn K c_NoText).isSome = true)
    (x20 : PySem.W.mroIn K c_NoText (.type "BaseException") = some true)
    (x21 : PySem.W.mroIn K c_NoText (.ref c_NoText) = some true)
    (x22 : PySem.W.kitOne K (.ref c_NoText) (.ref c_NoText) = some true)
    (x23 : PySem.W.kitOne K (.ref c_NoText) (.ref c_NeverPlain) = some false)
    (x24 : PySem.W.kitOne K (.ref c_NoText) (.ref c_TwoWays) = some false)
    (x25 : PySem.W.kitOne K (.ref c_NoText) (.ref c_TooMany) = some false)
    (x26 : PySem.W.kitOne K (.ref c_NoText) (.ref c_OtherSigns) = some false)
    (x27 : PySem.W.kitOne K (.ref c_NoText) (.ref c_NotPlain) = some false)
    (x28 : PySem.W.kitOne K (.ref c_NoText) (.ref c_NoRoom) = some false)
    (x29 : PySem.W.kitOne K (.ref c_NoText) (.ref c_NoWay) = some false)
    (x30 : PySem.W.kitOne K (.ref c_NoText) (.ref c_ScribeError) = some true)
    (x31 : PySem.W.kitOne K (.ref c_NoText) (.type "ValueError") = some true) :
    ∃ fd : FuncData, (∀ (s : Shared) (v : Value), BindsTo s fd ⟨[v], []⟩ [("_law_script", v)]) ∧ ∀ base : Heap, K.In base → base.Ns mainGlobals mg → FnOk l.prog w K mg base CX0 6 fa fd ["_law_script"] (spLaw K) := by
  have e := hfa.symm.trans (PySem.W.mg_of X G a39)
  cases e
  have B : Bi mg := ⟨PySem.W.mg_none_of X G z0, PySem.W.mg_none_of X G z1, PySem.W.mg_none_of X G z2, PySem.W.mg_none_of X G z3, PySem.W.mg_none_of X G z4, PySem.W.mg_none_of X G z5, PySem.W.mg_none_of X G z6, PySem.W.mg_none_of X G z7, PySem.W.mg_none_of X G z8, PySem.W.mg_none_of X G z9, PySem.W.mg_none_of X G z10, PySem.W.mg_none_of X G z11, PySem.W.mg_none_of X G z12, PySem.W.mg_none_of X G z13, ⟨_, PySem.W.mg_of X G g0⟩, ⟨_, PySem.W.mg_of X G g1⟩, ⟨_, PySem.W.mg_of X G g2⟩, ⟨_, PySem.W.mg_of X G g3⟩, ⟨_, PySem.W.mg_of X G g4⟩, ⟨_, PySem.W.mg_of X G g5⟩, ⟨_, PySem.W.mg_of X G g6⟩⟩
  have nm_ScribeError := PySem.W.mg_of X G x0
  have nm_NoWay := PySem.W.mg_of X G x1
  have nm_NoRoom := PySem.W.mg_of X G x2
  have nm_NotPlain := PySem.W.mg_of X G x3
  have nm_OtherSigns := PySem.W.mg_of X G x4
  have nm_TooMany := PySem.W.mg_of X G x5
  have nm_TwoWays := PySem.W.mg_of X G x6
  have nm_NeverPlain := PySem.W.mg_of X G x7
  have nm_NoText := PySem.W.mg_of X G x8
  have own_NoText : OwnX K mg "NoText" c_NoText := ⟨nm_NoText, x9⟩
  have xc_NoText : XCls K c_NoText := ⟨x10, x11, x12, x13, x14, x15, x16, x17⟩
  have cl_NoText : Clause K mg "NoText" c_NoText := ⟨nm_NoText, x18, x19, x20⟩
  have sub_NoText_NoText := x21
  have is_NoText_NoText := x22
  have is_NoText_NeverPlain := x23
  have is_NoText_TwoWays := x24
  have is_NoText_TooMany := x25
  have is_NoText_OtherSigns := x26
  have is_NoText_NotPlain := x27
  have is_NoText_NoRoom := x28
  have is_NoText_NoWay := x29
  have is_NoText_ScribeError := x30
  have iv_NoText_ValueError := x31
  have XB : Xb K mg c_ScribeError c_NoWay c_NoRoom c_NotPlain c_OtherSigns c_TooMany c_TwoWays c_NeverPlain c_NoText := ⟨nm_ScribeError, nm_NoWay, nm_NoRoom, nm_NotPlain, nm_OtherSigns, nm_TooMany, nm_TwoWays, nm_NeverPlain, nm_NoText, own_NoText, xc_NoText, cl_NoText, sub_NoText_NoText, is_NoText_NoText, is_NoText_NeverPlain, is_NoText_TwoWays, is_NoText_TooMany, is_NoText_OtherSigns, is_NoText_NotPlain, is_NoText_NoRoom, is_NoText_NoWay, is_NoText_ScribeError, iv_NoText_ValueError⟩
  have F0 := fun_mk (st := s_is_tuple_of) l0 c0 k0
  have F1 := fun_mk (st := s_is_number_below) l1 c1 k1
  have F2 := fun_mk (st := s_is_word) l2 c2 k2
  have F3 := fun_mk (st := s_all_unlike) l3 c3 k3
  have F4 := fun_mk (st := s_are_signs) l4 c4 k4
  have F5 := fun_mk (st := s_is_mark) l5 c5 k5
  have F6 := fun_mk (st := s_is_step) l6 c6 k6
  have F7 := fun_mk (st := s_are_marks) l7 c7 k7
  have F8 := fun_mk (st := s_are_steps) l8 c8 k8
  have F9 := fun_mk (st := s_is_scribe) l9 c9 k9
  have F10 := fun_mk (st := s_shown_word) l10 c10 k10
  have F11 := fun_mk (st := s_shown_mark) l11 c11 k11
  have F12 := fun_mk (st := s_shown_step) l12 c12 k12
  have F13 := fun_mk (st := s_shown_scribe) l13 c13 k13
  have F14 := fun_mk (st := s_read_parts) l14 c14 k14
  have F15 := fun_mk (st := s_read_number) l15 c15 k15
  have F16 := fun_mk (st := s_read_word) l16 c16 k16
  have F17 := fun_mk (st := s_read_mark) l17 c17 k17
  have F18 := fun_mk (st := s_read_step) l18 c18 k18
  have F19 := fun_mk (st := s_read_rows) l19 c19 k19
  have F20 := fun_mk (st := s_read_scribe) l20 c20 k20
  have F21 := fun_mk (st := s_law_cell_at) l21 c21 k21
  have F22 := fun_mk (st := s_law_whole) l22 c22 k22
  have F23 := fun_mk (st := s_law_mixed) l23 c23 k23
  have F24 := fun_mk (st := s_law_word) l24 c24 k24
  have F25 := fun_mk (st := s_law_signs) l25 c25 k25
  have F26 := fun_mk (st := s_law_rest) l26 c26 k26
  have F27 := fun_mk (st := s_law_choices) l27 c27 k27
  have F28 := fun_mk (st := s_law_is_scribe) l28 c28 k28
  have F29 := fun_mk (st := s_law_shown) l29 c29 k29
  have F30 := fun_mk (st := s_law_alone) l30 c30 k30
  have F31 := fun_mk (st := s_law_signs_bent) l31 c31 k31
  have F32 := fun_mk (st := s_law_rows_bent) l32 c32 k32
  have F33 := fun_mk (st := s_law_long) l33 c33 k33
  have F34 := fun_mk (st := s_law_number) l34 c34 k34
  have F35 := fun_mk (st := s_law_letters) l35 c35 k35
  have F36 := fun_mk (st := s_law_pair) l36 c36 k36
  have F37 := fun_mk (st := s_law_row) l37 c37 k37
  have F38 := fun_mk (st := s_law_reader) l38 c38 k38
  have F39 := fun_mk (st := s_law) l39 c39 k39
  refine ⟨PySem.W.fnOf "law" "law" (defArgs s_law) (defBody s_law) (defScope s_law) .none kV39 dc39 pm39 an39 cd39 ct39, fun s v => .of_eq rfl, fun base _ _ => ?_⟩
  have C_is_tuple_of : Cal l.prog w K mg base "is_tuple_of" ["thing", "count"] 1 (spTupOf K) := ⟨_, _, ok_is_tuple_of (P := l.prog) (w := w) (base := base) B XB  F0, F0.binds (ps := ["thing", "count"]) (fun _ _ _ _ _ _ us hl => by obtain ⟨u0, u1, rfl⟩ := len_2 hl; rfl), F0.kp, PySem.W.mg_of X G a0⟩
  have C_is_number_below : Cal l.prog w K mg base "is_number_below" ["thing", "bound"] 1 (spNumB K) := ⟨_, _, ok_is_number_below (P := l.prog) (w := w) (base := base) B XB  F1, F1.binds (ps := ["thing", "bound"]) (fun _ _ _ _ _ _ us hl => by obtain ⟨u0, u1, rfl⟩ := len_2 hl; rfl), F1.kp, PySem.W.mg_of X G a1⟩
  have C_is_word : Cal l.prog w K mg base "is_word" ["thing"] 1 (spIsWord K) := ⟨_, _, ok_is_word (P := l.prog) (w := w) (base := base) B XB  F2, F2.binds (ps := ["thing"]) (fun _ _ _ _ _ _ us hl => by obtain ⟨u0, rfl⟩ := len_1 hl; rfl), F2.kp, PySem.W.mg_of X G a2⟩
  have C_all_unlike : Cal l.prog w K mg base "all_unlike" ["parts"] 1 (spUnl K) := ⟨_, _, ok_all_unlike (P := l.prog) (w := w) (base := base) B XB  F3, F3.binds (ps := ["parts"]) (fun _ _ _ _ _ _ us hl => by obtain ⟨u0, rfl⟩ := len_1 hl; rfl), F3.kp, PySem.W.mg_of X G a3⟩
  have C_are_signs : Cal l.prog w K mg base "are_signs" ["thing"] 2 (spSigns K) := ⟨_, _, ok_are_signs (P := l.prog) (w := w) (base := base) B XB C_is_word C_all_unlike F4, F4.binds (ps := ["thing"]) (fun _ _ _ _ _ _ us hl => by obtain ⟨u0, rfl⟩ := len_1 hl; rfl), F4.kp, PySem.W.mg_of X G a4⟩
  have C_is_mark : Cal l.prog w K mg base "is_mark" ["thing", "rooms"] 2 (spMark K) := ⟨_, _, ok_is_mark (P := l.prog) (w := w) (base := base) B XB C_is_tuple_of C_is_number_below C_is_word F5, F5.binds (ps := ["thing", "rooms"]) (fun _ _ _ _ _ _ us hl => by obtain ⟨u0, u1, rfl⟩ := len_2 hl; rfl), F5.kp, PySem.W.mg_of X G a5⟩
  have C_is_step : Cal l.prog w K mg base "is_step" ["thing", "signs", "rooms"] 2 (spStp K) := ⟨_, _, ok_is_step (P := l.prog) (w := w) (base := base) B XB C_is_word C_is_tuple_of C_is_number_below F6, F6.binds (ps := ["thing", "signs", "rooms"]) (fun _ _ _ _ _ _ us hl => by obtain ⟨u0, u1, u2, rfl⟩ := len_3 hl; rfl), F6.kp, PySem.W.mg_of X G a6⟩
  have C_are_marks : Cal l.prog w K mg base "are_marks" ["thing", "rooms"] 3 (spMarks K) := ⟨_, _, ok_are_marks (P := l.prog) (w := w) (base := base) B XB C_all_unlike C_is_mark F7, F7.binds (ps := ["thing", "rooms"]) (fun _ _ _ _ _ _ us hl => by obtain ⟨u0, u1, rfl⟩ := len_2 hl; rfl), F7.kp, PySem.W.mg_of X G a7⟩
  have C_are_steps : Cal l.prog w K mg base "are_steps" ["thing", "signs", "rooms"] 3 (spStps K) := ⟨_, _, ok_are_steps (P := l.prog) (w := w) (base := base) B XB C_all_unlike C_is_step F8, F8.binds (ps := ["thing", "signs", "rooms"]) (fun _ _ _ _ _ _ us hl => by obtain ⟨u0, u1, u2, rfl⟩ := len_3 hl; rfl), F8.kp, PySem.W.mg_of X G a8⟩
  have C_is_scribe : Cal l.prog w K mg base "is_scribe" ["thing"] 4 (spScr K) := ⟨_, _, ok_is_scribe (P := l.prog) (w := w) (base := base) B XB C_are_steps C_is_tuple_of C_are_signs C_is_number_below C_are_marks F9, F9.binds (ps := ["thing"]) (fun _ _ _ _ _ _ us hl => by obtain ⟨u0, rfl⟩ := len_1 hl; rfl), F9.kp, PySem.W.mg_of X G a9⟩
  have C_shown_word : Cal l.prog w K mg base "shown_word" ["word"] 1 (spShW) := ⟨_, _, ok_shown_word (P := l.prog) (w := w) (base := base) B XB  F10, F10.binds (ps := ["word"]) (fun _ _ _ _ _ _ us hl => by obtain ⟨u0, rfl⟩ := len_1 hl; rfl), F10.kp, PySem.W.mg_of X G a10⟩
  have C_shown_mark : Cal l.prog w K mg base "shown_mark" ["kind", "mark"] 2 (spShM K) := ⟨_, _, ok_shown_mark (P := l.prog) (w := w) (base := base) B XB C_shown_word F11, F11.binds (ps := ["kind", "mark"]) (fun _ _ _ _ _ _ us hl => by obtain ⟨u0, u1, rfl⟩ := len_2 hl; rfl), F11.kp, PySem.W.mg_of X G a11⟩
  have C_shown_step : Cal l.prog w K mg base "shown_step" ["step"] 2 (spShS K) := ⟨_, _, ok_shown_step (P := l.prog) (w := w) (base := base) B XB C_shown_word F12, F12.binds (ps := ["step"]) (fun _ _ _ _ _ _ us hl => by obtain ⟨u0, rfl⟩ := len_1 hl; rfl), F12.kp, PySem.W.mg_of X G a12⟩
  have C_shown_scribe : Cal l.prog w K mg base "shown_scribe" ["scribe"] 3 (spShown K) := ⟨_, _, ok_shown_scribe (P := l.prog) (w := w) (base := base) B XB C_shown_mark C_shown_step F13, F13.binds (ps := ["scribe"]) (fun _ _ _ _ _ _ us hl => by obtain ⟨u0, rfl⟩ := len_1 hl; rfl), F13.kp, PySem.W.mg_of X G a13⟩
  have C_read_parts : Cal1 l.prog w K mg base "read_parts" ["row", "count"] 1 (spParts c_NoText) := ⟨_, _, ok_read_parts (P := l.prog) (w := w) (base := base) B XB  F14, F14.binds (ps := ["row", "count"]) (fun _ _ _ _ _ _ us hl => by obtain ⟨u0, u1, rfl⟩ := len_2 hl; rfl), F14.kp, PySem.W.mg_of X G a14⟩
  have C_read_number : Cal1 l.prog w K mg base "read_number" ["figures"] 1 (spNum c_NoText) := ⟨_, _, ok_read_number (P := l.prog) (w := w) (base := base) B XB  F15, F15.binds (ps := ["figures"]) (fun _ _ _ _ _ _ us hl => by obtain ⟨u0, rfl⟩ := len_1 hl; rfl), F15.kp, PySem.W.mg_of X G a15⟩
  have C_read_word : Cal l.prog w K mg base "read_word" ["shown"] 1 (spRdW) := ⟨_, _, ok_read_word (P := l.prog) (w := w) (base := base) B XB  F16, F16.binds (ps := ["shown"]) (fun _ _ _ _ _ _ us hl => by obtain ⟨u0, rfl⟩ := len_1 hl; rfl), F16.kp, PySem.W.mg_of X G a16⟩
  have C_read_mark : Cal1 l.prog w K mg base "read_mark" ["row"] 2 (spRdM c_NoText) := ⟨_, _, ok_read_mark (P := l.prog) (w := w) (base := base) B XB C_read_parts C_read_number C_read_word F17, F17.binds (ps := ["row"]) (fun _ _ _ _ _ _ us hl => by obtain ⟨u0, rfl⟩ := len_1 hl; rfl), F17.kp, PySem.W.mg_of X G a17⟩
  have C_read_step : Cal1 l.prog w K mg base "read_step" ["row"] 2 (spRdS c_NoText) := ⟨_, _, ok_read_step (P := l.prog) (w := w) (base := base) B XB C_read_parts C_read_number C_read_word F18, F18.binds (ps := ["row"]) (fun _ _ _ _ _ _ us hl => by obtain ⟨u0, rfl⟩ := len_1 hl; rfl), F18.kp, PySem.W.mg_of X G a18⟩
  have C_read_rows : Cal1 l.prog w K mg base "read_rows" ["rows"] 3 (spRows K c_NoText) := ⟨_, _, ok_read_rows (P := l.prog) (w := w) (base := base) B XB C_read_parts C_read_number C_read_mark C_read_step F19, F19.binds (ps := ["rows"]) (fun _ _ _ _ _ _ us hl => by obtain ⟨u0, rfl⟩ := len_1 hl; rfl), F19.kp, PySem.W.mg_of X G a19⟩
  have C_read_scribe : Cal1 l.prog w K mg base "read_scribe" ["text"] 5 (spRead K c_NoText) := ⟨_, _, ok_read_scribe (P := l.prog) (w := w) (base := base) B XB C_read_rows C_is_scribe C_shown_scribe F20, F20.binds (ps := ["text"]) (fun _ _ _ _ _ _ us hl => by obtain ⟨u0, rfl⟩ := len_1 hl; rfl), F20.kp, PySem.W.mg_of X G a20⟩
  have C_law_cell_at : Cal l.prog w K mg base "_law_cell_at" ["_law_script", "_law_k"] 1 (spCell K) := ⟨_, _, ok_law_cell_at (P := l.prog) (w := w) (base := base) B XB  F21, F21.binds (ps := ["_law_script", "_law_k"]) (fun _ _ _ _ _ _ us hl => by obtain ⟨u0, u1, rfl⟩ := len_2 hl; rfl), F21.kp, PySem.W.mg_of X G a21⟩
  have C_law_whole : Cal l.prog w K mg base "_law_whole" ["_law_found"] 1 (spWholeI K) := ⟨_, _, ok_law_whole (P := l.prog) (w := w) (base := base) B XB  F22, F22.binds (ps := ["_law_found"]) (fun _ _ _ _ _ _ us hl => by obtain ⟨u0, rfl⟩ := len_1 hl; rfl), F22.kp, PySem.W.mg_of X G a22⟩
  have C_law_mixed : Cal l.prog w K mg base "_law_mixed" ["_law_cell", "_law_k"] 1 (spMixed) := ⟨_, _, ok_law_mixed (P := l.prog) (w := w) (base := base) B XB  F23, F23.binds (ps := ["_law_cell", "_law_k"]) (fun _ _ _ _ _ _ us hl => by obtain ⟨u0, u1, rfl⟩ := len_2 hl; rfl), F23.kp, PySem.W.mg_of X G a23⟩
  have C_law_word : Cal l.prog w K mg base "_law_word" ["_law_rest_here"] 1 (spWord) := ⟨_, _, ok_law_word (P := l.prog) (w := w) (base := base) B XB  F24, F24.binds (ps := ["_law_rest_here"]) (fun _ _ _ _ _ _ us hl => by obtain ⟨u0, rfl⟩ := len_1 hl; rfl), F24.kp, PySem.W.mg_of X G a24⟩
  have C_law_signs : Cal l.prog w K mg base "_law_signs" ["_law_number_here"] 1 (spSigns2) := ⟨_, _, ok_law_signs (P := l.prog) (w := w) (base := base) B XB  F25, F25.binds (ps := ["_law_number_here"]) (fun _ _ _ _ _ _ us hl => by obtain ⟨u0, rfl⟩ := len_1 hl; rfl), F25.kp, PySem.W.mg_of X G a25⟩
  have C_law_rest : Cal l.prog w K mg base "_law_rest" ["_law_script", "_law_k", "_law_salt"] 2 (spRest K) := ⟨_, _, ok_law_rest (P := l.prog) (w := w) (base := base) B XB C_law_cell_at C_law_mixed F26, F26.binds (ps := ["_law_script", "_law_k", "_law_salt"]) (fun _ _ _ _ _ _ us hl => by obtain ⟨u0, u1, u2, rfl⟩ := len_3 hl; rfl), F26.kp, PySem.W.mg_of X G a26⟩
  have C_law_choices : Cal l.prog w K mg base "_law_choices" ["_law_script", "_law_salt", "_law_most"] 3 (spDraw86 K) := ⟨_, _, ok_law_choices (P := l.prog) (w := w) (base := base) B XB C_law_signs C_law_rest C_law_word F27, F27.binds (ps := ["_law_script", "_law_salt", "_law_most"]) (fun _ _ _ _ _ _ us hl => by obtain ⟨u0, u1, u2, rfl⟩ := len_3 hl; rfl), F27.kp, PySem.W.mg_of X G a27⟩
  have C_law_is_scribe : Cal l.prog w K mg base "_law_is_scribe" ["_law_found"] 2 (spIsScr K) := ⟨_, _, ok_law_is_scribe (P := l.prog) (w := w) (base := base) B XB C_law_whole F28, F28.binds (ps := ["_law_found"]) (fun _ _ _ _ _ _ us hl => by obtain ⟨u0, rfl⟩ := len_1 hl; rfl), F28.kp, PySem.W.mg_of X G a28⟩
  have C_law_shown : Cal l.prog w K mg base "_law_shown" ["_law_scribe"] 1 (spLS86 K) := ⟨_, _, ok_law_shown (P := l.prog) (w := w) (base := base) B XB  F29, F29.binds (ps := ["_law_scribe"]) (fun _ _ _ _ _ _ us hl => by obtain ⟨u0, rfl⟩ := len_1 hl; rfl), F29.kp, PySem.W.mg_of X G a29⟩
  have C_law_alone : Cal l.prog w K mg base "_law_alone" ["_law_error"] 1 (spAlone K c_NoText) := ⟨_, _, ok_law_alone (P := l.prog) (w := w) (base := base) B XB  F30, F30.binds (ps := ["_law_error"]) (fun _ _ _ _ _ _ us hl => by obtain ⟨u0, rfl⟩ := len_1 hl; rfl), F30.kp, PySem.W.mg_of X G a30⟩
  have C_law_signs_bent : Cal l.prog w K mg base "_law_signs_bent" ["_law_text", "_law_number_here", "_law_more"] 1 (spSigB) := ⟨_, _, ok_law_signs_bent (P := l.prog) (w := w) (base := base) B XB  F31, F31.binds (ps := ["_law_text", "_law_number_here", "_law_more"]) (fun _ _ _ _ _ _ us hl => by obtain ⟨u0, u1, u2, rfl⟩ := len_3 hl; rfl), F31.kp, PySem.W.mg_of X G a31⟩
  have C_law_rows_bent : Cal l.prog w K mg base "_law_rows_bent" ["_law_rows", "_law_number_here", "_law_more"] 1 (spBent K) := ⟨_, _, ok_law_rows_bent (P := l.prog) (w := w) (base := base) B XB  F32, F32.binds (ps := ["_law_rows", "_law_number_here", "_law_more"]) (fun _ _ _ _ _ _ us hl => by obtain ⟨u0, u1, u2, rfl⟩ := len_3 hl; rfl), F32.kp, PySem.W.mg_of X G a32⟩
  have C_law_long : Cal l.prog w K mg base "_law_long" ["_law_rows", "_law_more"] 1 (spLong K) := ⟨_, _, ok_law_long (P := l.prog) (w := w) (base := base) B XB  F33, F33.binds (ps := ["_law_rows", "_law_more"]) (fun _ _ _ _ _ _ us hl => by obtain ⟨u0, u1, rfl⟩ := len_2 hl; rfl), F33.kp, PySem.W.mg_of X G a33⟩
  have C_law_number : Cal l.prog w K mg base "_law_number" ["_law_text"] 1 (spLNum) := ⟨_, _, ok_law_number (P := l.prog) (w := w) (base := base) B XB  F34, F34.binds (ps := ["_law_text"]) (fun _ _ _ _ _ _ us hl => by obtain ⟨u0, rfl⟩ := len_1 hl; rfl), F34.kp, PySem.W.mg_of X G a34⟩
  have C_law_letters : Cal l.prog w K mg base "_law_letters" ["_law_text"] 1 (spLet) := ⟨_, _, ok_law_letters (P := l.prog) (w := w) (base := base) B XB  F35, F35.binds (ps := ["_law_text"]) (fun _ _ _ _ _ _ us hl => by obtain ⟨u0, rfl⟩ := len_1 hl; rfl), F35.kp, PySem.W.mg_of X G a35⟩
  have C_law_pair : Cal l.prog w K mg base "_law_pair" ["_law_words", "_law_rooms"] 2 (spPair K) := ⟨_, _, ok_law_pair (P := l.prog) (w := w) (base := base) B XB C_law_number C_law_letters F36, F36.binds (ps := ["_law_words", "_law_rooms"]) (fun _ _ _ _ _ _ us hl => by obtain ⟨u0, u1, rfl⟩ := len_2 hl; rfl), F36.kp, PySem.W.mg_of X G a36⟩
  have C_law_row : Cal l.prog w K mg base "_law_row" ["_law_row_here", "_law_signs_here", "_law_rooms"] 3 (spRow K) := ⟨_, _, ok_law_row (P := l.prog) (w := w) (base := base) B XB C_law_pair C_law_number F37, F37.binds (ps := ["_law_row_here", "_law_signs_here", "_law_rooms"]) (fun _ _ _ _ _ _ us hl => by obtain ⟨u0, u1, u2, rfl⟩ := len_3 hl; rfl), F37.kp, PySem.W.mg_of X G a37⟩
  have C_law_reader : Cal l.prog w K mg base "_law_reader" ["_law_text"] 4 (spReader K) := ⟨_, _, ok_law_reader (P := l.prog) (w := w) (base := base) B XB C_law_number C_law_row C_law_letters F38, F38.binds (ps := ["_law_text"]) (fun _ _ _ _ _ _ us hl => by obtain ⟨u0, rfl⟩ := len_1 hl; rfl), F38.kp, PySem.W.mg_of X G a38⟩
  exact ok_law (P := l.prog) (w := w) (base := base) B XB C_law_mixed C_law_shown C_law_reader C_law_cell_at C_law_choices C_law_long C_law_rows_bent C_law_signs_bent C_read_scribe C_law_alone C_law_is_scribe F39
theorem walk {l : PySem.W.OpenLaw} {q : Program} {loose : List Str} {XP : (Str → Option Value) → Heap → Prop} {YP : World → Heap → Prop} {d : DefRec} {K : Params → PySem.W.Frag} (hn : l.most = some 63) (hdf : d.params.defaults = [])
    (hY : ∀ (w : World) (h : Heap), YP w h → (K w.params).In h)
    (F : ∀ (w : World) (mg : Str → Option Value) (fa : Addr) (h : Heap), (K w.params).In h → h.Ns mainGlobals mg → mg d.name = some (.ref fa) →
      ∃ fd : FuncData, (∀ (s : Shared) (u : Value), BindsTo s fd ⟨[u], []⟩ [("_law_script", u)]) ∧ ∀ base : Heap, (K w.params).In base → base.Ns mainGlobals mg → FnOk l.prog w (K w.params) mg base CX0 6 fa fd ["_law_script"] (spLaw (K w.params))) :
    PySem.W.WalkO q loose XP YP l.row.toRowW d [] (fun f vs => PySem.call f vs) :=
  L2.walk_of (n := 63) (k := 6) (x := "_law_script") (CX := fun _ => CX0) (sp := fun w => spLaw (K w.params)) hn (by decide) hdf ⟨rfl, by decide, by decide⟩ hY F (fun _ _ a ns hl _ hS => ⟨a, ns, rfl, hS, hl, fun _ => rfl⟩) fun _ _ _ _ _ z => z
end My
open PySem PySem.W PyProof.Rows
set_option maxRecDepth 100000 in
set_option maxHeartbeats 0 in
theorem PySem.Challenge.cw_earlyscribe_k86_refused_texts_holds : PySem.Challenge.rw_earlyscribe_k86_refused_texts.Holds := by
  w_on; o_law
  refine holds_open (q := My.q) (loose := []) (XP := XL My.q []) (YP := InK My.K) (N := 6698) My.hl (InK.of fun _ => rfl) InK.keeps
    (fun s z => xl_of s (Bool.and_eq_true_iff.mp z).1) XL.keeps (by rfl) (by rfl) (by rfl)
    (fun s z => recFacts_of (Bool.and_eq_true_iff.mp z).2) rfl (by assumption) (by decide +kernel)
    ⟨rfl, rfl, rfl, rfl, rfl, by decide +kernel⟩ ?hw ?hc
  (case hw => w_witness2)
  k_fill
  refine My.walk (l := PySem.Challenge.rw_earlyscribe_k86_refused_texts) rfl rfl (fun w h Y => Y) ?F
  case F =>
    intro w mg fa h KX G hmg
    refine' My.all_mk KX G hmg ?a0 ?l0 ?c0 ?k0 ?a1 ?l1 ?c1 ?k1 ?a2 ?l2 ?c2 ?k2 ?a3 ?l3 ?c3 ?k3 ?a4 ?l4 ?c4 ?k4 ?a5 ?l5 ?c5 ?k5 ?a6 ?l6 ?c6 ?k6 ?a7 ?l7 ?c7 ?k7 ?a8 ?l8 ?c8 ?k8 ?a9 ?l9 ?c9 ?k9 ?a10 ?l10 ?c10 ?k10 ?a11 ?l11 ?c11 ?k11 ?a12 ?l12 ?c12 ?k12 ?a13 ?l13 ?c13 ?k13 ?a14 ?l14 ?c14 ?k14 ?a15 ?l15 ?c15 ?k15 ?a16 ?l16 ?c16 ?k16 ?a17 ?l17 ?c17 ?k17 ?a18 ?l18 ?c18 ?k18 ?a19 ?l19 ?c19 ?k19 ?a20 ?l20 ?c20 ?k20 ?a21 ?l21 ?c21 ?k21 ?a22 ?l22 ?c22 ?k22 ?a23 ?l23 ?c23 ?k23 ?a24 ?l24 ?c24 ?k24 ?a25 ?l25 ?c25 ?k25 ?a26 ?l26 ?c26 ?k26 ?a27 ?l27 ?c27 ?k27 ?a28 ?l28 ?c28 ?k28 ?a29 ?l29 ?c29 ?k29 ?a30 ?l30 ?c30 ?k30 ?a31 ?l31 ?c31 ?k31 ?a32 ?l32 ?c32 ?k32 ?a33 ?l33 ?c33 ?k33 ?a34 ?l34 ?c34 ?k34 ?a35 ?l35 ?c35 ?k35 ?a36 ?l36 ?c36 ?k36 ?a37 ?l37 ?c37 ?k37 ?a38 ?l38 ?c38 ?k38 ?a39 ?l39 ?c39 ?k39 ?z0 ?z1 ?z2 ?z3 ?z4 ?z5 ?z6 ?z7 ?z8 ?z9 ?z10 ?z11 ?z12 ?z13 ?gc0 ?gc1 ?gc2 ?gc3 ?gc4 ?gc5 ?gc6 ?xq0 ?xq1 ?xq2 ?xq3 ?xq4 ?xq5 ?xq6 ?xq7 ?xq8 ?xq9 ?xq10 ?xq11 ?xq12 ?xq13 ?xq14 ?xq15 ?xq16 ?xq17 ?xq18 ?xq19 ?xq20 ?xq21 ?xq22 ?xq23 ?xq24 ?xq25 ?xq26 ?xq27 ?xq28 ?xq29 ?xq30 ?xq31
    (case a0 => k_is); (case l0 => k_is); (case c0 => k_is); (case k0 => k_is)
    (case a1 => k_is); (case l1 => k_is); (case c1 => k_is); (case k1 => k_is)
    (case a2 => k_is); (case l2 => k_is); (case c2 => k_is); (case k2 => k_is)
    (case a3 => k_is); (case l3 => k_is); (case c3 => k_is); (case k3 => k_is)
    (case a4 => k_is); (case l4 => k_is); (case c4 => k_is); (case k4 => k_is)
    (case a5 => k_is); (case l5 => k_is); (case c5 => k_is); (case k5 => k_is)
    (case a6 => k_is); (case l6 => k_is); (case c6 => k_is); (case k6 => k_is)
    (case a7 => k_is); (case l7 => k_is); (case c7 => k_is); (case k7 => k_is)
    (case a8 => k_is); (case l8 => k_is); (case c8 => k_is); (case k8 => k_is)
    (case a9 => k_is); (case l9 => k_is); (case c9 => k_is); (case k9 => k_is)
    (case a10 => k_is); (case l10 => k_is); (case c10 => k_is); (case k10 => k_is)
    (case a11 => k_is); (case l11 => k_is); (case c11 => k_is); (case k11 => k_is)
    (case a12 => k_is); (case l12 => k_is); (case c12 => k_is); (case k12 => k_is)
    (case a13 => k_is); (case l13 => k_is); (case c13 => k_is); (case k13 => k_is)
    (case a14 => k_is); (case l14 => k_is); (case c14 => k_is); (case k14 => k_is)
    (case a15 => k_is); (case l15 => k_is); (case c15 => k_is); (case k15 => k_is)
    (case a16 => k_is); (case l16 => k_is); (case c16 => k_is); (case k16 => k_is)
    (case a17 => k_is); (case l17 => k_is); (case c17 => k_is); (case k17 => k_is)
    (case a18 => k_is); (case l18 => k_is); (case c18 => k_is); (case k18 => k_is)
    (case a19 => k_is); (case l19 => k_is); (case c19 => k_is); (case k19 => k_is)
    (case a20 => k_is); (case l20 => k_is); (case c20 => k_is); (case k20 => k_is)
    (case a21 => k_is); (case l21 => k_is); (case c21 => k_is); (case k21 => k_is)
    (case a22 => k_is); (case l22 => k_is); (case c22 => k_is); (case k22 => k_is)
    (case a23 => k_is); (case l23 => k_is); (case c23 => k_is); (case k23 => k_is)
    (case a24 => k_is); (case l24 => k_is); (case c24 => k_is); (case k24 => k_is)
    (case a25 => k_is); (case l25 => k_is); (case c25 => k_is); (case k25 => k_is)
    (case a26 => k_is); (case l26 => k_is); (case c26 => k_is); (case k26 => k_is)
    (case a27 => k_is); (case l27 => k_is); (case c27 => k_is); (case k27 => k_is)
    (case a28 => k_is); (case l28 => k_is); (case c28 => k_is); (case k28 => k_is)
    (case a29 => k_is); (case l29 => k_is); (case c29 => k_is); (case k29 => k_is)
    (case a30 => k_is); (case l30 => k_is); (case c30 => k_is); (case k30 => k_is)
    (case a31 => k_is); (case l31 => k_is); (case c31 => k_is); (case k31 => k_is)
    (case a32 => k_is); (case l32 => k_is); (case c32 => k_is); (case k32 => k_is)
    (case a33 => k_is); (case l33 => k_is); (case c33 => k_is); (case k33 => k_is)
    (case a34 => k_is); (case l34 => k_is); (case c34 => k_is); (case k34 => k_is)
    (case a35 => k_is); (case l35 => k_is); (case c35 => k_is); (case k35 => k_is)
    (case a36 => k_is); (case l36 => k_is); (case c36 => k_is); (case k36 => k_is)
    (case a37 => k_is); (case l37 => k_is); (case c37 => k_is); (case k37 => k_is)
    (case a38 => k_is); (case l38 => k_is); (case c38 => k_is); (case k38 => k_is)
    (case a39 => k_is); (case l39 => k_is); (case c39 => k_is); (case k39 => k_is)
    (case z0 => k_is)
    (case z1 => k_is)
    (case z2 => k_is)
    (case z3 => k_is)
    (case z4 => k_is)
    (case z5 => k_is)
    (case z6 => k_is)
    (case z7 => k_is)
    (case z8 => k_is)
    (case z9 => k_is)
    (case z10 => k_is)
    (case z11 => k_is)
    (case z12 => k_is)
    (case z13 => k_is)
    (case gc0 => k_is)
    (case gc1 => k_is)
    (case gc2 => k_is)
    (case gc3 => k_is)
    (case gc4 => k_is)
    (case gc5 => k_is)
    (case gc6 => k_is)
    (case xq0 => first | k_is | rfl | kernel_rfl)
    (case xq1 => first | k_is | rfl | kernel_rfl)
    (case xq2 => first | k_is | rfl | kernel_rfl)
    (case xq3 => first | k_is | rfl | kernel_rfl)
    (case xq4 => first | k_is | rfl | kernel_rfl)
    (case xq5 => first | k_is | rfl | kernel_rfl)
    (case xq6 => first | k_is | rfl | kernel_rfl)
    (case xq7 => first | k_is | rfl | kernel_rfl)
    (case xq8 => first | k_is | rfl | kernel_rfl)
    (case xq9 => first | k_is | rfl | kernel_rfl)
    (case xq10 => first | k_is | rfl | kernel_rfl)
    (case xq11 => first | k_is | rfl | kernel_rfl)
    (case xq12 => first | k_is | rfl | kernel_rfl)
    (case xq13 => first | k_is | rfl | kernel_rfl)
    (case xq14 => first | k_is | rfl | kernel_rfl)
    (case xq15 => first | k_is | rfl | kernel_rfl)
    (case xq16 => first | k_is | rfl | kernel_rfl)
    (case xq17 => first | k_is | rfl | kernel_rfl)
    (case xq18 => first | k_is | rfl | kernel_rfl)
    (case xq19 => first | k_is | rfl | kernel_rfl)
    (case xq20 => first | k_is | rfl | kernel_rfl)
    (case xq21 => first | k_is | rfl | kernel_rfl)
    (case xq22 => first | k_is | rfl | kernel_rfl)
    (case xq23 => first | k_is | rfl | kernel_rfl)
    (case xq24 => first | k_is | rfl | kernel_rfl)
    (case xq25 => first | k_is | rfl | kernel_rfl)
    (case xq26 => first | k_is | rfl | kernel_rfl)
    (case xq27 => first | k_is | rfl | kernel_rfl)
    (case xq28 => first | k_is | rfl | kernel_rfl)
    (case xq29 => first | k_is | rfl | kernel_rfl)
    (case xq30 => first | k_is | rfl | kernel_rfl)
    (case xq31 => first | k_is | rfl | kernel_rfl)
