import PyProof.Rows.All
import Wide.All
import OpenK.AllK
import Wide.FinOn
import Lean
import PyProof.EqAt
import PyProof.EqKinds
import PyProof.TupleCall
import PySem.Challenge.RW_earlyscribe_k93_first_ways
set_option maxHeartbeats 4000000
set_option Elab.async false
set_option linter.all false
set_option maxRecDepth 100000
/-! THE HAND LAYER, for ints, bools, texts, own classes, LISTS and tuples (index, slices, in, append, pop ..), calls, loops. Paste it whole ahead of your own text; what your proof does not reach may be deleted. -/
namespace L2
open PySem PySem.Spec PyProof.Rows

abbrev Key := Sum Int Str
def keyIs : Key → Value → Bool
  | .inl k, v => Value.isInt k v
  | .inr x, v => Value.isStrOf x v
def keyH (w : World) : Key → Int
  | .inl k => hashInt k
  | .inr x => hashStr w x
theorem keyIs_shape : ∀ {k : Key} {v : Value}, keyIs k v = true → (∃ i t, k = Sum.inl i ∧ v = Value.int i t) ∨ (∃ x t, k = Sum.inr x ∧ v = Value.str x t)
  | .inl i, v, h => by
    obtain ⟨t, e⟩ := Value.isInt_shape (k := i) (v := v) h
    exact .inl ⟨i, t, rfl, e⟩
  | .inr x, v, h => by
    obtain ⟨t, e⟩ := Value.isStrOf_shape (x := x) (v := v) h
    exact .inr ⟨x, t, rfl, e⟩
theorem keyIs_int (i : Int) (t : Tok) : keyIs (.inl i) (.int i t) = true := by simp [keyIs, Value.isInt]
theorem keyIs_str (x : Str) (t : Tok) : keyIs (.inr x) (.str x t) = true := by simp [keyIs, Value.isStrOf]
theorem key_ll (a b : Int) : decide ((Sum.inl a : Key) = Sum.inl b) = (a == b) := by
  by_cases e : a = b
  · subst e; simp
  · have h : ¬ (Sum.inl a : Key) = Sum.inl b := fun q => e (Sum.inl.inj q)
    rw [decide_eq_false h]
    exact (beq_eq_false_iff_ne.mpr e).symm
theorem key_rr (a b : Str) : decide ((Sum.inr a : Key) = Sum.inr b) = decide (a = b) := by
  by_cases e : a = b
  · subst e; simp
  · have h : ¬ (Sum.inr a : Key) = Sum.inr b := fun q => e (Sum.inr.inj q)
    rw [decide_eq_false h, decide_eq_false e]
theorem key_lr (a : Int) (b : Str) : decide ((Sum.inl a : Key) = Sum.inr b) = false := decide_eq_false (fun q => nomatch q)
theorem key_rl (a : Str) (b : Int) : decide ((Sum.inr a : Key) = Sum.inl b) = false := decide_eq_false (fun q => nomatch q)

def mixKind (prog : Program) (w : World) : PySem.KeyKind prog w Key where
  is := keyIs
  hash := keyH w
  inj := fun v a b ha hb => by
    rcases keyIs_shape ha with ⟨i, t, rfl, rfl⟩ | ⟨x, t, rfl, rfl⟩
    · rcases keyIs_shape hb with ⟨j, u, rfl, e⟩ | ⟨y, u, rfl, e⟩
      · injection e with e1 _; rw [e1]
      · exact nomatch e
    · rcases keyIs_shape hb with ⟨j, u, rfl, e⟩ | ⟨y, u, rfl, e⟩
      · exact nomatch e
      · injection e with e1 _; rw [e1]
  byValue := fun k v h => by
    rcases keyIs_shape h with ⟨i, t, rfl, rfl⟩ | ⟨x, t, rfl, rfl⟩ <;> rfl
  pyHash := fun hv h => by
    rcases keyIs_shape hv with ⟨i, t, rfl, rfl⟩ | ⟨x, t, rfl, rfl⟩
    · exact wpAny_pyHash_int h
    · exact wpAny_pyHash_str h
  eqBool := fun hu hv h => by
    rcases keyIs_shape hu with ⟨i, t, rfl, rfl⟩ | ⟨x, t, rfl, rfl⟩
    · rcases keyIs_shape hv with ⟨j, u, rfl, rfl⟩ | ⟨y, u, rfl, rfl⟩
      · rw [key_ll] at h; exact wpAny_eqBool_int h
      · rw [key_lr] at h; exact SeqAt.EqAt.int_str i t y u _ _ _ _ h
    · rcases keyIs_shape hv with ⟨j, u, rfl, rfl⟩ | ⟨y, u, rfl, rfl⟩
      · rw [key_rl] at h; exact SeqAt.EqAt.str_int x t j u _ _ _ _ h
      · rw [key_rr] at h; exact wpAny_eqBool_str h
  «strs» := fun k x t v h => by
    rcases keyIs_shape h with ⟨i, u, rfl, e⟩ | ⟨y, u, rfl, e⟩
    · exact nomatch e
    · injection e with e1 _
      subst e1
      cases v <;> rfl

theorem mixKind_int (prog : Program) (w : World) (i : Int) (t : Tok) : (mixKind prog w).is (.inl i) (.int i t) = true := keyIs_int i t
theorem mixKind_str (prog : Program) (w : World) (x : Str) (t : Tok) : (mixKind prog w).is (.inr x) (.str x t) = true := keyIs_str x t
end L2

namespace L2
open PySem PySem.Spec PyProof.Rows

inductive V where
  | non | bl (b : Bool) | int (i : Int) | str (x : Str) | byt (b : Array UInt8) | flt (b : UInt64) | ref (a : Addr) | ty (n : String)
  deriving DecidableEq

def RelV : V → Value → Prop
  | .non, u => u = Value.none
  | .bl b, u => u = Value.bool b
  | .int i, u => ∃ t, u = Value.int i t
  | .str x, u => ∃ t, u = Value.str x t
  | .byt b, u => ∃ t, u = Value.bytes b t
  | .flt b, u => ∃ t, u = Value.float b t
  | .ref a, u => u = Value.ref a
  | .ty n, u => u = Value.type n

abbrev Vals : List V → List Value → Prop := Paired RelV
theorem Vals.length {xs : List V} {us : List Value} (r : Vals xs us) : xs.length = us.length := Paired.length r
theorem Vals.get : ∀ {xs : List V} {us : List Value} {i : Nat} {x : V}, Vals xs us → xs[i]? = some x → ∃ u, us[i]? = some u ∧ RelV x u
  | _, _, _, _, .nil, e => by simp at e
  | _, _, 0, _, .cons r _, e => by simp at e; subst e; exact ⟨_, rfl, r⟩
  | _, _, i + 1, x, .cons _ t, e => by
    obtain ⟨u, h1, h2⟩ := Vals.get (i := i) (x := x) t (by simpa using e)
    exact ⟨u, by simpa using h1, h2⟩
theorem Vals.append : ∀ {xs ys : List V} {us ws : List Value}, Vals xs us → Vals ys ws → Vals (xs ++ ys) (us ++ ws)
  | _, _, _, _, .nil, s => s
  | _, _, _, _, .cons r t, s => .cons r (Vals.append t s)
theorem Vals.take : ∀ {xs : List V} {us : List Value} (n : Nat), Vals xs us → Vals (xs.take n) (us.take n)
  | _, _, 0, _ => .nil
  | _, _, _ + 1, .nil => .nil
  | _, _, n + 1, .cons r t => .cons r (Vals.take n t)
theorem Vals.drop : ∀ {xs : List V} {us : List Value} (n : Nat), Vals xs us → Vals (xs.drop n) (us.drop n)
  | _, _, 0, r => r
  | _, _, _ + 1, .nil => .nil
  | _, _, n + 1, .cons _ t => Vals.drop n t
def RelO : Option V → Option Value → Prop
  | some v, some u => RelV v u
  | none, none => True
  | _, _ => False
def KV {κ : Type} : List (κ × V) → List (κ × Value) → Prop := Paired fun (p : κ × V) (q : κ × Value) => p.1 = q.1 ∧ RelV p.2 q.2

def kV : Key → V
  | .inl i => .int i
  | .inr x => .str x

inductive HO where
  /-- a list -/
  | lst (xs : List V)
  /-- a tuple (never changes) -/
  | tup (xs : List V)
  /-- a dict whose keys are ints and texts; one whose keys are tuples of ints and texts (the empty one is both) -/
  | dK (kvs : List (Key × V)) | dT (kvs : List (List Key × V))
  /-- a set of ints: its members, its size -/
  | set (S : Int → Bool) (n : Nat)
  /-- an instance of the class at C, its dict at dx, its attributes -/
  | ins (C dx : Addr) (fs : List (Str × V))
  /-- the dict of the instance at x -/
  | own (x : Addr)
  /-- the dict of an exception -/
  | xd (fs : List (Str × V))
  /-- a bound method, f of x -/
  | met (f x : Addr)
  /-- a range object lo, lo + 1, .. below hi -/
  | rng (lo hi : Int)
  /-- a thing that is known to the object (the script; a dict while a loop walks it): read, never written while it is so -/
  | frz (o : Obj) (u : HO)
  /-- a code object's table -/
  | tbl (ps : Array Value)
  /-- any other thing, by what is true of its one object (a def of one's own: SetO a S n := HO.ext fun h => ..) -/
  | ext (φ : Heap → Prop)

abbrev Hp := Addr → Option HO
def upd (H : Hp) (a : Addr) (o : HO) : Hp := fun b => if b = a then some o else H b
theorem upd_same {H : Hp} {a : Addr} {o : HO} : upd H a o a = some o := by unfold upd; rw [if_pos rfl]
theorem upd_ne {H : Hp} {a b : Addr} {o : HO} (h : b ≠ a) : upd H a o b = H b := by unfold upd; rw [if_neg h]
theorem ne_of {H : Hp} {a b : Addr} {o u : HO} (h : H a = some o) (h' : H b = some u) (d : o ≠ u) : a ≠ b := by
  intro e; subst e; rw [h] at h'; exact d (Option.some.inj h')
theorem ne_of_none {H : Hp} {a b : Addr} {o : HO} (h : H a = some o) (h' : H b = none) : a ≠ b := by
  intro e; subst e; rw [h] at h'; cases h'

section
variable (P : Program) (w : World)
def ObjOk (H : Hp) (h : Heap) (a : Addr) : HO → Prop
  | .lst xs => xs.length ≤ sizeLine ∧ ∃ (its : List Value) (n : Nat), Vals xs its ∧ h.get? a = some { cls := .type "list", data := .seq its.toArray n }
  | .tup xs => xs.length ≤ sizeLine ∧ ∃ its : List Value, Vals xs its ∧ IsTup h a its.toArray
  | .dK kvs => kvs.length ≤ sizeLine ∧ (a == sysModules) = false ∧ ∃ vs, KV kvs vs ∧ h.DictOf (mixKind P w) a vs
  | .dT kvs => kvs.length ≤ sizeLine ∧ (a == sysModules) = false ∧ ∃ xs : List (List Key × Addr × Value),
      Paired (fun (p : List Key × V) (q : List Key × Addr × Value) => p.1 = q.1 ∧ H q.2.1 = some (.tup (p.1.map kV)) ∧ RelV p.2 q.2.2) kvs xs ∧
      ∃ o es ep, h.get? a = some o ∧ o.ExactDict ∧ o.data = .dict es ep ∧ es.toList = xs.map (entryOfKey (tupleKind (mixKind P w))) ∧ (xs.map (·.1)).Nodup
  | .set S n => h.SetOf (intKind P w) a S n
  | .ins C dx fs => H dx = some (.own a) ∧ fs.length ≤ 1000 ∧ dx ≠ a ∧ h.get? a = some (PySem.W.instObj C dx) ∧
      ∃ mA, h.Ns1 dx mA ∧ (∀ f, RelO (fs.lookup f) (mA f)) ∧ PySem.Within mA (fs.map (·.1))
  | .own _ => ∃ o, h.get? a = some o
  | .xd fs => ∃ mA, h.Ns1 a mA ∧ ∀ f, RelO (fs.lookup f) (mA f)
  | .rng lo hi => ∃ t u v, h.get? a = some { cls := .type "range", data := .fields #[.int lo t, .int hi u, .int 1 v] }
  | .frz o u => h.get? a = some o ∧ ObjOk H h a u
  | .tbl ps => h.get? a = some { cls := .none, data := .fields ps }
  | .met f x => h.get? a = some (PySem.W.methodObj (.ref f) (.ref x))
  | .ext φ => φ h ∧ (∃ o, h.get? a = some o) ∧ ∀ h1 h2 : Heap, φ h1 → (∀ o, h1.get? a = some o → h2.get? a = some o) → φ h2
def HOk (H : Hp) (h : Heap) : Prop := ∀ a o, H a = some o → ObjOk P w H h a o
end

section
variable {P : Program} {w : World} {H H' : Hp} {h h' : Heap} {a : Addr} {o : HO}
theorem ObjOk.lt (x : ObjOk P w H h a o) : a < h.objs.size := by
  cases o with
  | lst xs => obtain ⟨_, _, _, _, e⟩ := x; exact Heap.lt_size e
  | tup xs => obtain ⟨_, _, _, p⟩ := x; exact p.lt
  | dK kvs => obtain ⟨_, _, _, _, o, _, _, e, _⟩ := x; exact Heap.lt_size e
  | dT kvs => obtain ⟨_, _, _, _, o, _, _, e, _⟩ := x; exact Heap.lt_size e
  | set S n => obtain ⟨o, _, _, _, e, _⟩ := x; exact Heap.lt_size e
  | ins C dx fs => obtain ⟨_, _, _, e, _⟩ := x; exact Heap.lt_size e
  | own y => obtain ⟨_, e⟩ := x; exact Heap.lt_size e
  | xd fs => obtain ⟨_, ⟨_, _, _, e, _⟩, _⟩ := x; exact Heap.lt_size e
  | rng lo hi => obtain ⟨_, _, _, e⟩ := x; exact Heap.lt_size e
  | frz ob u => obtain ⟨e, _⟩ := x; exact Heap.lt_size e
  | tbl ps => exact Heap.lt_size (show h.get? a = some _ from x)
  | met f y => exact Heap.lt_size (show h.get? a = some _ from x)
  | ext φ => obtain ⟨_, ⟨_, e⟩, _⟩ := x; exact Heap.lt_size e
theorem Paired.mapP {α β : Type} {F G : α → β → Prop} : ∀ {l₁ : List α} {l₂ : List β}, Paired F l₁ l₂ → (∀ a b, F a b → G a b) → Paired G l₁ l₂
  | _, _, .nil, _ => .nil
  | _, _, .cons r t, f => .cons (f _ _ r) (Paired.mapP t f)
theorem ObjOk.stay (x : ObjOk P w H h a o) (k : ∀ b u, (b = a ∨ H b = some (.own a)) → h.get? b = some u → h'.get? b = some u)
    (ho : ∀ b, H b = some (.own a) → H' b = some (.own a)) (ht : ∀ b xs, H b = some (.tup xs) → H' b = some (.tup xs)) : ObjOk P w H' h' a o := by
  induction o with
  | lst xs => obtain ⟨z, its, n, r, e⟩ := x; exact ⟨z, its, n, r, k _ _ (.inl rfl) e⟩
  | tup xs => obtain ⟨z, its, r, ob, e, c⟩ := x; exact ⟨z, its, r, ob, k _ _ (.inl rfl) e, c⟩
  | dK kvs => obtain ⟨z, y, vs, r, ob, es, ep, e, c⟩ := x; exact ⟨z, y, vs, r, ob, es, ep, k _ _ (.inl rfl) e, c⟩
  | dT kvs =>
    obtain ⟨z, y, xs, r, ob, es, ep, e, c⟩ := x
    exact ⟨z, y, xs, Paired.mapP r fun p q z => ⟨z.1, ht _ _ z.2.1, z.2.2⟩, ob, es, ep, k _ _ (.inl rfl) e, c⟩
  | set S n => obtain ⟨ob, es, ep, t, e, c⟩ := x; exact ⟨ob, es, ep, t, k _ _ (.inl rfl) e, c⟩
  | ins C dx fs =>
    obtain ⟨d, z, ne, e, mA, ⟨od, es, ep, e2, c⟩, r⟩ := x
    exact ⟨ho _ d, z, ne, k _ _ (.inl rfl) e, mA, ⟨od, es, ep, k _ _ (.inr d) e2, c⟩, r⟩
  | own y => obtain ⟨ob, e⟩ := x; exact ⟨ob, k _ _ (.inl rfl) e⟩
  | xd fs => obtain ⟨mA, ⟨od, es, ep, e, c⟩, r⟩ := x; exact ⟨mA, ⟨od, es, ep, k _ _ (.inl rfl) e, c⟩, r⟩
  | rng lo hi => obtain ⟨t, u, v, e⟩ := x; exact ⟨t, u, v, k _ _ (.inl rfl) e⟩
  | frz ob u ih => obtain ⟨e, q⟩ := x; exact ⟨k _ _ (.inl rfl) e, ih q⟩
  | tbl ps =>
    have e : h.get? a = some { cls := .none, data := .fields ps } := x
    show h'.get? a = some { cls := .none, data := .fields ps }
    exact k a _ (.inl rfl) e
  | met f y =>
    have e : h.get? a = some (PySem.W.methodObj (.ref f) (.ref y)) := x
    show h'.get? a = some (PySem.W.methodObj (.ref f) (.ref y))
    exact k a _ (.inl rfl) e
  | ext φ => obtain ⟨p, ⟨o, e⟩, st⟩ := x; exact ⟨st _ _ p fun o q => k _ _ (.inl rfl) q, ⟨o, k _ _ (.inl rfl) e⟩, st⟩
theorem HOk.lt (x : HOk P w H h) (e : H a = some o) : a < h.objs.size := (x a o e).lt
theorem HOk.fresh (x : HOk P w H h) (e : h.objs.size ≤ a) : H a = none := by
  cases q : H a with
  | none => rfl
  | some u => exact absurd (Nat.lt_of_lt_of_le (x.lt q) e) (Nat.lt_irrefl _)
theorem HOk.kept (x : HOk P w H h) (k : ∀ b u, h.get? b = some u → h'.get? b = some u) : HOk P w H h' := fun a o e =>
  (x a o e).stay (fun b u _ q => k b u q) (fun _ q => q) fun _ _ q => q
theorem HOk.laid (x : HOk P w H h) (k : ∀ b u, h.get? b = some u → h'.get? b = some u) (hp : h.objs.size ≤ a) (new : ObjOk P w (upd H a o) h' a o) : HOk P w (upd H a o) h' := fun b u e => by
  have hn := x.fresh hp
  by_cases hb : b = a
  · subst hb; rw [upd_same] at e; cases e; exact new
  · rw [upd_ne hb] at e
    exact (x b u e).stay (fun c v _ q => k c v q) (fun c q => by rw [upd_ne (ne_of_none q hn)]; exact q) fun c xs q => by rw [upd_ne (ne_of_none q hn)]; exact q
end

def Rd (H : Hp) (a : Addr) (u : HO) : Prop := H a = some u ∨ ∃ o, H a = some (.frz o u)
theorem Rd.ok {P : Program} {w : World} {H : Hp} {h : Heap} {a : Addr} {u : HO} (r : Rd H a u) (x : HOk P w H h) : ObjOk P w H h a u := by
  rcases r with r | ⟨o, r⟩
  · exact x a u r
  · obtain ⟨_, q⟩ := x a _ r
    exact q
def Mut : Option HO → Prop
  | some (.lst _) => True
  | some (.dK _) => True
  | some (.dT _) => True
  | some (.set _ _) => True
  | some (.ins _ _ _) => True
  | some (.ext _) => True
  | _ => False
section
variable {P : Program} {w : World} {H : Hp} {h h' : Heap} {x e : Addr} {o' : HO}
theorem HOk.write (ok : HOk P w H h) (mu : Mut (H x)) (he : e = x ∨ H e = some (.own x)) (k : ∀ b u, b ≠ e → h.get? b = some u → h'.get? b = some u) (heo : ∃ u, h'.get? e = some u)
    (new : ObjOk P w (upd H x o') h' x o') : HOk P w (upd H x o') h' := fun b u q => by
  have nown : ∀ c y, H c = some (.own y) → c ≠ x := fun c y r z => by subst z; rw [r] at mu; exact mu
  have ntup : ∀ c xs, H c = some (.tup xs) → c ≠ x := fun c xs r z => by subst z; rw [r] at mu; exact mu
  by_cases hb : b = x
  · subst hb; rw [upd_same] at q; cases q; exact new
  · rw [upd_ne hb] at q
    by_cases hbe : b = e
    · have q' : H b = some (.own x) := by
        rcases he with z | z
        · exact absurd (hbe.trans z) hb
        · rw [hbe]; exact z
      rw [q] at q'; cases q'
      obtain ⟨v, hv⟩ := heo
      exact ⟨v, by rw [hbe]; exact hv⟩
    · refine (ok b u q).stay (fun c v hc r => k c v ?_ r) (fun c r => by rw [upd_ne (nown c b r)]; exact r) fun c xs r => by rw [upd_ne (ntup c xs r)]; exact r
      rcases hc with rfl | hc
      · exact hbe
      · rintro rfl
        rcases he with z | z
        · exact nown c b hc z
        · rw [hc] at z; cases z; exact hb rfl
end

/-! ### kept unless tracked; of the frames at fs (the callers') the slots may change (an exception that passes writes there); of the records at ex (iterators) nothing is said -/
structure Un (fs ex : List Addr) (H H' : Hp) (h h' : Heap) : Prop where
  keep : ∀ b o, h.get? b = some o → H b = none → b ∉ fs → b ∉ ex → h'.get? b = some o
  slot : ∀ b o, h.get? b = some o → H b = none → b ∈ fs → b ∉ ex → ∃ sl, h'.get? b = some { o with slots := sl }
  free : ∀ b o, h.get? b = some o → H b = none → b ∉ ex → H' b = none
  there : ∀ b o, h.get? b = some o → b ∉ ex → ∃ o', h'.get? b = some o'
  tups : ∀ b xs, H b = some (.tup xs) → H' b = some (.tup xs)
  frzs : ∀ b o u, H b = some (.frz o u) → H' b = some (.frz o u)
  tbls : ∀ b ps, H b = some (.tbl ps) → ∃ more, H' b = some (.tbl (ps ++ more))
section
variable {fs fs' ex ex' : List Addr} {H H1 H2 : Hp} {h h1 h2 h' : Heap} {a x e : Addr} {o : HO}
theorem Un.any (u : Un fs ex H H1 h h1) {b : Addr} {ob : Obj} (q : h.get? b = some ob) (n : H b = none) (hx : b ∉ ex) : ∃ sl, h1.get? b = some { ob with slots := sl } := by
  by_cases hb : b ∈ fs
  · exact u.slot b ob q n hb hx
  · exact ⟨ob.slots, u.keep b ob q n hb hx⟩
theorem Un.kept (k : ∀ b u, h.get? b = some u → h'.get? b = some u) : Un fs ex H H h h' :=
  ⟨fun b ob q _ _ _ => k b ob q, fun b ob q _ _ _ => ⟨ob.slots, k b ob q⟩, fun _ _ _ n _ => n, fun b ob q _ => ⟨ob, k b ob q⟩, fun _ _ q => q, fun _ _ _ q => q, fun _ ps q => ⟨#[], by rw [q]; simp⟩⟩
theorem Un.refl : Un fs ex H H h h := Un.kept fun _ _ q => q
theorem Un.laid (k : ∀ b u, h.get? b = some u → h'.get? b = some u) (hp : h.objs.size ≤ a) (hn : H a = none) : Un fs ex H (upd H a o) h h' where
  keep := fun b u q _ _ _ => k b u q
  slot := fun b u q _ _ _ => ⟨u.slots, k b u q⟩
  free := fun b u q n _ => by rw [upd_ne (Nat.ne_of_lt (Nat.lt_of_lt_of_le (Heap.lt_size q) hp))]; exact n
  there := fun b u q _ => ⟨u, k b u q⟩
  tups := fun b xs q => by rw [upd_ne (ne_of_none q hn)]; exact q
  frzs := fun b u xs q => by rw [upd_ne (ne_of_none q hn)]; exact q
  tbls := fun b ps q => ⟨#[], by rw [upd_ne (ne_of_none q hn), q]; simp⟩
theorem Un.write (mu : Mut (H x)) (he : e = x ∨ H e = some (.own x)) (k : ∀ b u, b ≠ e → h.get? b = some u → h'.get? b = some u) (heo : ∃ u, h'.get? e = some u) : Un fs ex H (upd H x o) h h' := by
  have hx : ∀ b, H b = none → b ≠ x := fun b n z => by subst z; rw [n] at mu; exact mu
  have hb : ∀ b, H b = none → b ≠ e := fun b n z => by
    subst z
    rcases he with r | r
    · exact hx b n r
    · rw [n] at r; cases r
  have hm : ∀ b u, H b = some u → ¬ Mut (some u) → b ≠ x := fun b u q nm z => by subst z; rw [q] at mu; exact nm mu
  refine ⟨fun b u q n _ _ => k b u (hb b n) q, fun b u q n _ _ => ⟨u.slots, k b u (hb b n) q⟩, fun b u q n _ => by rw [upd_ne (hx b n)]; exact n, fun b u q _ => ?_,
    fun b xs q => by rw [upd_ne (hm b _ q fun z => z)]; exact q, fun b u xs q => by rw [upd_ne (hm b _ q fun z => z)]; exact q, fun b ps q => ⟨#[], by rw [upd_ne (hm b _ q fun z => z), q]; simp⟩⟩
  by_cases hbe : b = e
  · subst hbe; exact heo
  · exact ⟨u, k b u hbe q⟩
end

/-! ### the heap without what is tracked -/
def trk (h : Heap) (H : Hp) : List Addr := (List.range h.objs.size).filter fun a => (H a).isSome
def hidT (h : Heap) (H : Hp) : Heap := PySem.W.hideAll h (trk h H)
theorem hidT_size (h : Heap) (H : Hp) : (hidT h H).objs.size = h.objs.size := PySem.W.hideAll_size _ _
theorem hidT_get {h : Heap} {H : Hp} {b : Addr} {o : Obj} (e : h.get? b = some o) (n : H b = none) : (hidT h H).get? b = some o :=
  PySem.W.hideAll_get _ e fun hm => by
    have q : (H b).isSome = true := (List.mem_filter.mp hm).2
    rw [n] at q; simp at q
theorem of_hidT {h : Heap} {H : Hp} {b : Addr} {o : Obj} (e : (hidT h H).get? b = some o) : h.get? b = some o ∧ H b = none := by
  have e' : h.get? b = some o := PySem.W.of_hideAll (trk h H) e
  refine ⟨e', ?_⟩
  cases q : H b with
  | none => rfl
  | some x =>
    have hm : b ∈ trk h H := List.mem_filter.mpr ⟨List.mem_range.mpr (Heap.lt_size e'), by simp [q]⟩
    have z : (hidT h H).get? b = none := PySem.W.hideAll_none (trk h H) hm
    rw [z] at e; cases e

/-! ### OpenK's ledger, filled with every new object but one -/
def allNews (g h : Heap) (L : Addr) : List (Addr × Obj) := (List.range h.objs.size).filterMap fun a => if a = L ∨ (g.get? a).isSome = true then none else (h.get? a).map fun o => (a, o)
def rest (g h : Heap) (L d : Addr) : List (Addr × Obj) := (allNews g h L).filter fun p => decide (p.1 ≠ d)
end L2

namespace L2
open PySem PySem.Spec PyProof.Rows

structure Mod (K : PySem.W.Frag) (mg : Str → Option Value) (base : Heap) : Prop where
  kin : K.In base
  glob : base.Ns mainGlobals mg
  blt : ∃ mb, base.Ns builtinsNs mb ∧ ∀ x : Str, x ≠ "__name__" → mb x = bootBuiltins x
  nolimit : base.NoLimit

/-- the context: a def's body (or a comprehension's block) running. base: fixed through the whole law; s₀, H₀: the entry; outer: the frames whose slots others may change (a def's callers); stack: all frames that run;
   ex: iterators that were made ahead of the entry and are walked here (a comprehension's); fn: the names whose cells were made at the entry (a def: all; a comprehension's block: its own); calm: not within an except suite; pn: pins that every state bears; xe: what is wanted of an exception that leaves the code -/
structure Cx where
  prog : Program
  w : World
  K : PySem.W.Frag
  mg : Str → Option Value
  base : Heap
  A : Around
  N : List Str
  s₀ : Shared
  H₀ : Hp
  env : Env
  outer : List Env
  stack : List Env
  ex : List Addr
  fn : Str → Bool
  calm : Bool
  pn : List (Addr × Obj)
  xe : Value → Shared → Prop
def frs (l : List Env) : List Addr := l.filterMap (·.frame)
abbrev Cx.fs (X : Cx) : List Addr := frs X.outer

def Vis (sc : Scope) (x : Str) : Prop := sc.names.lookup x = some .local ∨ sc.names.lookup x = some .cell ∨ sc.names.lookup x = some .free
def Loc (sc : Scope) (x : Str) : Prop := sc.names.lookup x = some .local ∨ sc.names.lookup x = some .cell
def Look (env : Env) (h : Heap) (m : Str → Option Value) (x : Str) (u : Value) : Prop :=
  (env.kindOf x = some .local ∧ m x = some u) ∨ ((env.kindOf x = some .cell ∨ env.kindOf x = some .free) ∧ ∃ c, env.cells.lookup x = some c ∧ h.IsCell c (some u))

structure Cx.Ok (X : Cx) : Prop where
  mod : Mod X.K X.mg X.base
  kind : X.env.scope.kind = .function
  glob : X.env.globals = mainGlobals
  blt : X.env.builtins = builtinsNs
  above : X.s₀.heap.objs.size ≤ X.env.locals
  inj : ∀ x y c, X.env.cells.lookup x = some c → X.env.cells.lookup y = some c → x = y
  has : ∀ x, (X.env.kindOf x = some .cell ∨ X.env.kindOf x = some .free) → ∃ c, X.env.cells.lookup x = some c
  cab : ∀ x c, X.fn x = true → X.env.cells.lookup x = some c → X.s₀.heap.objs.size ≤ c
  hd : X.calm = true → X.A.handled = none
  frames : X.A.frames = some X.stack
  stk : X.stack = X.outer ∨ (X.stack = X.env :: X.outer ∧ X.env.frame = some X.env.locals)
  exf : ∀ b ∈ X.ex, b ≠ X.env.locals ∧ ∀ x c, X.env.cells.lookup x = some c → c ≠ b
  bs : ∀ b o, X.base.get? b = some o → X.s₀.heap.get? b = some o ∧ X.H₀ b = none
  bsz : X.base.objs.size ≤ X.s₀.heap.objs.size
  noex : ∀ b o, X.base.get? b = some o → b ∉ X.ex
  exfs : ∀ b ∈ X.ex, b ∉ X.fs
  funs : X.s₀.heap.FunFrames X.base X.outer
  frf : ∀ b ∈ X.fs, X.H₀ b = none

structure Inv (X : Cx) (pins : List (Addr × Obj)) (σ : List (Option V)) (H : Hp) (s : Shared) : Prop where
  ok : X.Ok
  os : s.os = X.s₀.os
  bare : AllBare s.gens
  base : Un X.fs X.ex X.H₀ H X.s₀.heap s.heap
  loc : ∃ m, s.heap.Ns X.env.locals m ∧ ∀ (i : Nat) (x : Str) (v : V), X.N[i]? = some x → σ[i]? = some (some v) → Vis X.env.scope x → ∃ u, RelV v u ∧ Look X.env s.heap m x u
  cell : ∀ x c, X.env.cells.lookup x = some c → ∃ v, s.heap.IsCell c v
  free : H X.env.locals = none
  freeC : ∀ x c, X.env.cells.lookup x = some c → H c = none
  pin : ∀ p ∈ X.pn ++ pins, s.heap.get? p.1 = some p.2 ∧ H p.1 = none ∧ p.1 ≠ X.env.locals ∧ p.1 ∉ X.fs ∧ ∀ v, p.2.data ≠ .cell v
  hok : HOk X.prog X.w H s.heap
  len : σ.length = X.N.length

section
variable {X : Cx} {pins : List (Addr × Obj)} {σ : List (Option V)} {H H' : Hp} {s : Shared} {h' : Heap}

theorem Cx.Ok.nofr (ok : X.Ok) {b : Addr} {o : Obj} (e : X.base.get? b = some o) : b ∉ X.fs := fun hb => by
  have := (ok.funs.mem hb).1
  rw [e] at this; cases this
theorem Inv.bs (I : Inv X pins σ H s) : ∀ b o, X.base.get? b = some o → s.heap.get? b = some o ∧ H b = none := fun b o e =>
  ⟨I.base.keep b o (I.ok.bs b o e).1 (I.ok.bs b o e).2 (I.ok.nofr e) (I.ok.noex b o e), I.base.free b o (I.ok.bs b o e).1 (I.ok.bs b o e).2 (I.ok.noex b o e)⟩
theorem Inv.bk (I : Inv X pins σ H s) : ∀ b o, X.base.get? b = some o → s.heap.get? b = some o := fun b o e => (I.bs b o e).1
theorem Inv.mod (I : Inv X pins σ H s) : Mod X.K X.mg X.base := I.ok.mod
theorem Inv.kIn (I : Inv X pins σ H s) : X.K.In s.heap := I.ok.mod.kin.keeps I.bk
theorem Inv.lt (I : Inv X pins σ H s) : X.env.locals < s.heap.objs.size := let ⟨_, hn, _⟩ := I.loc; hn.lt
theorem Inv.sz (I : Inv X pins σ H s) : X.s₀.heap.objs.size ≤ s.heap.objs.size := Nat.le_trans I.ok.above (Nat.le_of_lt I.lt)
theorem Inv.nofs (I : Inv X pins σ H s) {a : Addr} (h : s.heap.objs.size ≤ a) : a ∉ X.fs := fun hb => by
  obtain ⟨_, o, ho, _⟩ := I.ok.funs.mem hb
  exact absurd (Nat.lt_of_lt_of_le (Heap.lt_size ho) (Nat.le_trans I.sz h)) (Nat.lt_irrefl _)
theorem Inv.cne (I : Inv X pins σ H s) : ∀ x c, X.env.cells.lookup x = some c → c ≠ X.env.locals := fun x c e z => by
  obtain ⟨v, o, ho, hd⟩ := I.cell x c e
  obtain ⟨m, ⟨o', es, ep, ho', hd', _⟩, _⟩ := I.loc
  rw [z, ho'] at ho; cases ho; rw [hd'] at hd; cases hd
theorem Inv.funs (I : Inv X pins σ H s) : s.heap.FunFrames X.base X.outer := by
  have all : ∀ (l : List Env), (∀ b ∈ frs l, b ∈ X.fs) → X.s₀.heap.FunFrames X.base l → s.heap.FunFrames X.base l := by
    intro l
    induction l with
    | nil => intro _ _; trivial
    | cons env r ih =>
      intro hs hl
      obtain ⟨hk, ⟨L, o, hf, hn, ho, hd⟩, hr⟩ := hl
      have hL : L ∈ X.fs := hs L (by unfold frs; rw [List.filterMap_cons, hf]; exact List.mem_cons_self)
      obtain ⟨sl, e⟩ := I.base.slot L o ho (I.ok.frf L hL) hL fun z => I.ok.exfs L z hL
      exact ⟨hk, ⟨L, _, hf, hn, e, hd⟩, ih (fun b hb => hs b (by unfold frs; rw [List.filterMap_cons, hf]; exact List.mem_cons_of_mem _ hb)) hr⟩
  exact all X.outer (fun _ hb => hb) I.ok.funs

theorem Inv.stack (I : Inv X pins σ H s) : s.heap.FunFrames X.base X.stack := by
  rcases I.ok.stk with e | ⟨e, hf⟩
  · rw [e]; exact I.funs
  · rw [e]
    obtain ⟨m, hn, _⟩ := I.loc
    refine .cons (by rw [I.ok.kind]; decide) hf hn ?_ I.funs
    exact Heap.get?_none_of_le (Nat.le_trans I.ok.bsz I.ok.above)
theorem Inv.stkSub (I : Inv X pins σ H s) : ∀ b ∈ frs X.stack, b ∈ X.env.locals :: X.fs := fun b hb => by
  rcases I.ok.stk with e | ⟨e, hf⟩
  · rw [e] at hb; exact List.mem_cons_of_mem _ hb
  · rw [e] at hb
    unfold frs at hb
    rw [List.filterMap_cons, hf] at hb
    exact hb
theorem Inv.stkFree (I : Inv X pins σ H s) : ∀ b ∈ frs X.stack, H b = none := fun b hb => by
  rcases List.mem_cons.mp (I.stkSub b hb) with e | hb
  · rw [e]; exact I.free
  · obtain ⟨_, o, ho, _⟩ := I.ok.funs.mem hb
    exact I.base.free b o ho (I.ok.frf b hb) fun z => I.ok.exfs b z hb

theorem Inv.step {g' : Array GenState} {t' : Nat} {d' : Drawn} {ch : List Addr} (I : Inv X pins σ H s)
    (hch : ∀ b ∈ ch, (b ∈ X.ex ∨ X.s₀.heap.objs.size ≤ b) ∧ b ≠ X.env.locals ∧ (∀ x c, X.env.cells.lookup x = some c → c ≠ b) ∧ ∀ p ∈ X.pn ++ pins, p.1 ≠ b)
    (keep : ∀ b o, b ≠ X.env.locals → b ∉ X.fs → b ∉ ch → s.heap.get? b = some o → H b = none → h'.get? b = some o)
    (slot : ∀ b o, b ≠ X.env.locals → b ∈ X.fs → b ∉ ch → s.heap.get? b = some o → H b = none → ∃ sl, h'.get? b = some { o with slots := sl }) (free : ∀ b o, b ∉ ch → s.heap.get? b = some o → H b = none → H' b = none)
    (there : ∀ b o, b ∉ ch → s.heap.get? b = some o → ∃ o', h'.get? b = some o')
    (tups : ∀ b xs, H b = some (.tup xs) → H' b = some (.tup xs)) (frzs : ∀ b o u, H b = some (.frz o u) → H' b = some (.frz o u)) (tbls : ∀ b ps, H b = some (.tbl ps) → ∃ more, H' b = some (.tbl (ps ++ more)))
    (ns : ∀ m, s.heap.Ns X.env.locals m → h'.Ns X.env.locals m) (hok : HOk X.prog X.w H' h') (hg : AllBare g') :
    Inv X pins σ H' { s with heap := h', gens := g', drawn := d', toks := t' } := by
  have neL : ∀ b o, X.s₀.heap.get? b = some o → b ≠ X.env.locals := fun b o e => Nat.ne_of_lt (Nat.lt_of_lt_of_le (Heap.lt_size e) I.ok.above)
  have neC : ∀ b o, X.s₀.heap.get? b = some o → b ∉ X.ex → b ∉ ch := fun b o e hx hb => by
    rcases (hch b hb).1 with z | z
    · exact hx z
    · exact absurd (Nat.lt_of_lt_of_le (Heap.lt_size e) z) (Nat.lt_irrefl _)
  have cellK : ∀ x c, X.env.cells.lookup x = some c → ∀ v, s.heap.IsCell c v → h'.IsCell c v := fun x c e v ⟨o, ho, hd⟩ => by
    have nch : c ∉ ch := fun z => (hch c z).2.2.1 x c e rfl
    by_cases hc : c ∈ X.fs
    · obtain ⟨sl, q⟩ := slot c o (I.cne x c e) hc nch ho (I.freeC x c e)
      exact ⟨_, q, hd⟩
    · exact ⟨o, keep c o (I.cne x c e) hc nch ho (I.freeC x c e), hd⟩
  refine ⟨I.ok, I.os, hg, ⟨fun b o e n hb hx => ?_, fun b o e n hb hx => ?_, fun b o e n hx => ?_, fun b o e hx => ?_, fun b xs e => tups b xs (I.base.tups b xs e), fun b o xs e => frzs b o xs (I.base.frzs b o xs e), fun b ps e => ?_⟩, ?_, fun x c e => ?_, ?_, fun x c e => ?_, fun p hp => ?_, hok, I.len⟩
  · exact keep b o (neL b o e) hb (neC b o e hx) (I.base.keep b o e n hb hx) (I.base.free b o e n hx)
  · obtain ⟨sl, e1⟩ := I.base.slot b o e n hb hx
    obtain ⟨sl', e2⟩ := slot b _ (neL b o e) hb (neC b o e hx) e1 (I.base.free b o e n hx)
    exact ⟨sl', e2⟩
  · obtain ⟨o', e1⟩ := I.base.there b o e hx
    exact free b o' (neC b o e hx) e1 (I.base.free b o e n hx)
  · obtain ⟨o', e1⟩ := I.base.there b o e hx
    exact there b o' (neC b o e hx) e1
  · obtain ⟨m1, e1⟩ := I.base.tbls b ps e
    obtain ⟨m2, e2⟩ := tbls b _ e1
    exact ⟨m1 ++ m2, by rw [e2, Array.append_assoc]⟩
  · obtain ⟨m, hn, hl⟩ := I.loc
    refine ⟨m, ns m hn, fun i x v e1 e2 e3 => ?_⟩
    obtain ⟨u, r, l⟩ := hl i x v e1 e2 e3
    refine ⟨u, r, ?_⟩
    rcases l with l | ⟨k, c, e, z⟩
    · exact .inl l
    · exact .inr ⟨k, c, e, cellK x c e _ z⟩
  · obtain ⟨v, z⟩ := I.cell x c e
    exact ⟨v, cellK x c e v z⟩
  · obtain ⟨m, ⟨o, _, _, ho, _⟩, _⟩ := I.loc
    exact free _ o (fun z => (hch _ z).2.1 rfl) ho I.free
  · obtain ⟨v, o, ho, hd⟩ := I.cell x c e
    exact free c o (fun z => (hch c z).2.2.1 x c e rfl) ho (I.freeC x c e)
  · obtain ⟨e, n, ne, nf, d⟩ := I.pin p hp
    have nch : p.1 ∉ ch := fun z => (hch p.1 z).2.2.2 p hp rfl
    exact ⟨keep p.1 p.2 ne nf nch e n, free p.1 p.2 nch e n, ne, nf, d⟩
theorem Inv.un {t' : Nat} (I : Inv X pins σ H s) (u : Un X.fs [] H H' s.heap h') (hok : HOk X.prog X.w H' h') : Inv X pins σ H' { s with heap := h', toks := t' } := by
  obtain ⟨m, ⟨o, es, ep, ho, r⟩, _⟩ := id I.loc
  obtain ⟨sl, hL⟩ := u.any ho I.free (by simp)
  exact I.step (g' := s.gens) (d' := s.drawn) (ch := []) (fun _ z => nomatch z) (fun b o _ hb _ e n => u.keep b o e n hb (by simp)) (fun b o _ hb _ e n => u.slot b o e n hb (by simp)) (fun b o _ e n => u.free b o e n (by simp)) (fun b o _ e => u.there b o e (by simp)) u.tups u.frzs u.tbls (fun m' hm => by
    obtain ⟨o', es', ep', ho', r'⟩ := hm
    rw [ho] at ho'; cases ho'
    exact ⟨_, es', ep', hL, r'⟩) hok I.bare
theorem Inv.call {g' : Array GenState} {t' : Nat} {d' : Drawn} {ch : List Addr} (I : Inv X pins σ H s) (u : Un (frs X.stack) ch H H' s.heap h') (hok : HOk X.prog X.w H' h') (hg : AllBare g')
    (hch : ∀ b ∈ ch, (b ∈ X.ex ∨ X.s₀.heap.objs.size ≤ b) ∧ b ≠ X.env.locals ∧ (∀ x c, X.env.cells.lookup x = some c → c ≠ b) ∧ ∀ p ∈ X.pn ++ pins, p.1 ≠ b) :
    Inv X pins σ H' { s with heap := h', gens := g', drawn := d', toks := t' } := by
  obtain ⟨m, ⟨o, es, ep, ho, r⟩, _⟩ := id I.loc
  obtain ⟨sl, hL⟩ := u.any ho I.free fun z => (hch _ z).2.1 rfl
  exact I.step (ch := ch) hch (fun b o hL hb hc e n => u.keep b o e n (fun z => (List.mem_cons.mp (I.stkSub b z)).elim hL hb) hc) (fun b o _ _ hc e n => u.any e n hc) (fun b o hc e n => u.free b o e n hc) (fun b o hc e => u.there b o e hc) u.tups u.frzs u.tbls (fun m' hm => by
    obtain ⟨o', es', ep', ho', r'⟩ := hm
    rw [ho] at ho'; cases ho'
    exact ⟨_, es', ep', hL, r'⟩) hok hg
theorem Inv.turned {t' : Nat} {it : Addr} (I : Inv X pins σ H s) (k : ∀ b o, b ≠ it → s.heap.get? b = some o → h'.get? b = some o) (hn : H it = none) (hL : it ≠ X.env.locals)
    (h1 : it ∈ X.ex ∨ X.s₀.heap.objs.size ≤ it) (h2 : ∀ x c, X.env.cells.lookup x = some c → c ≠ it) (h3 : ∀ p ∈ X.pn ++ pins, p.1 ≠ it) : Inv X pins σ H { s with heap := h', toks := t' } := by
  have nit : ∀ b u, H b = some u → b ≠ it := fun b u e z => by rw [z, hn] at e; cases e
  refine I.step (g' := s.gens) (d' := s.drawn) (ch := [it]) (fun b hb => ?_) (fun b o _ _ hc e _ => k b o (fun z => hc (by simp [z])) e) (fun b o _ _ hc e _ => ⟨o.slots, k b o (fun z => hc (by simp [z])) e⟩) (fun _ _ _ _ n => n)
    (fun b o hc e => ⟨o, k b o (fun z => hc (by simp [z])) e⟩) (fun _ _ e => e) (fun _ _ _ e => e) (fun b ps e => ⟨#[], by rw [e]; simp⟩) (fun m hm => ?_) (fun b u e => ?_) I.bare
  · have e : b = it := by simpa using hb
    subst e
    exact ⟨h1, hL, h2, h3⟩
  · obtain ⟨o, es, ep, ho, r⟩ := hm
    exact ⟨o, es, ep, k _ o (Ne.symm hL) ho, r⟩
  · refine (I.hok b u e).stay (fun c v hc q => k c v ?_ q) (fun _ q => q) fun _ _ q => q
    rcases hc with z | z
    · rw [z]; exact nit b u e
    · exact nit c _ z
theorem Inv.tok (I : Inv X pins σ H s) (t : Nat) : Inv X pins σ H { s with toks := t } := I.un (h' := s.heap) (t' := t) Un.refl I.hok
theorem Inv.kept {t' : Nat} (I : Inv X pins σ H s) (k : ∀ b u, s.heap.get? b = some u → h'.get? b = some u) : Inv X pins σ H { s with heap := h', toks := t' } := I.un (Un.kept k) (I.hok.kept k)
theorem Inv.laid {a : Addr} {o : HO} {t' : Nat} (I : Inv X pins σ H s) (k : ∀ b u, s.heap.get? b = some u → h'.get? b = some u) (hp : s.heap.objs.size ≤ a) (new : ObjOk X.prog X.w (upd H a o) h' a o) :
    Inv X pins σ (upd H a o) { s with heap := h', toks := t' } := I.un (Un.laid k hp (I.hok.fresh hp)) (I.hok.laid k hp new)
theorem Inv.write {x e : Addr} {o : HO} {t' : Nat} (I : Inv X pins σ H s) (mu : Mut (H x)) (he : e = x ∨ H e = some (.own x)) (k : ∀ b u, b ≠ e → s.heap.get? b = some u → h'.get? b = some u) (heo : ∃ u, h'.get? e = some u)
    (new : ObjOk X.prog X.w (upd H x o) h' x o) : Inv X pins σ (upd H x o) { s with heap := h', toks := t' } := I.un (Un.write mu he k heo) (I.hok.write mu he k heo new)
theorem Inv.pins_of {pins' : List (Addr × Obj)} (I : Inv X pins σ H s) (h : ∀ p ∈ pins', s.heap.get? p.1 = some p.2 ∧ H p.1 = none ∧ p.1 ≠ X.env.locals ∧ p.1 ∉ X.fs ∧ ∀ v, p.2.data ≠ .cell v) : Inv X pins' σ H s :=
  ⟨I.ok, I.os, I.bare, I.base, I.loc, I.cell, I.free, I.freeC, fun p hp => (List.mem_append.mp hp).elim (fun z => I.pin p (List.mem_append_left _ z)) (h p), I.hok, I.len⟩

theorem nodup_ix {N : List Str} (hN : N.Nodup) {i j : Nat} {x : Str} (a : N[i]? = some x) (b : N[j]? = some x) : i = j := by
  obtain ⟨h1, e1⟩ := List.getElem?_eq_some_iff.mp a
  obtain ⟨h2, e2⟩ := List.getElem?_eq_some_iff.mp b
  exact (List.getElem_inj hN).mp (e1.trans e2.symm)

theorem store_ok2 {M : Model} {A : Around} {E : Value → Shared → Prop} {i : Nat} {x : Str} {v : V} {u : Value} {Q : Unit → Shared → Prop} (I : Inv X pins σ H s) (hN : X.N.Nodup) (hi : X.N[i]? = some x) (hx : Loc X.env.scope x) (r : RelV v u)
    (h : ∀ s', Inv X pins (σ.set i (some v)) H s' → (∃ a, Heap.SameBut a s.heap s'.heap ∧ (a = X.env.locals ∨ X.env.cells.lookup x = some a)) → Q () s') (hf : X.fn x = true ∨ X.env.scope.names.lookup x = some .local := by first | exact .inl rfl | exact .inr rfl | assumption) : wpAny M A (storeName X.env x u) Q E s := by
  obtain ⟨m, hn, hl⟩ := id I.loc
  have hcls : (X.env.scope.kind == .class || (X.env.scope.kind == .module && X.env.locals != X.env.globals)) = false := by rw [I.ok.kind]; rfl
  have hiσ : i < σ.length := by rw [I.len]; exact (List.getElem?_eq_some_iff.mp hi).1
  have cne := I.cne
  have tracked : ∀ {a : Addr} {h' : Heap}, (∃ o, s.heap.get? a = some o ∧ H a = none) → Heap.SameBut a s.heap h' → HOk X.prog X.w H h' := fun {a h'} ha hs b ob e => by
    obtain ⟨_, _, hfree⟩ := ha
    refine (I.hok b ob e).stay (fun c w' hc q => (hs.2 c ?_).trans q) (fun _ q => q) fun _ _ q => q
    rintro rfl
    rcases hc with rfl | hc
    · rw [hfree] at e; cases e
    · rw [hfree] at hc; cases hc
  rcases hx with hk | hk
  · refine wpAny_storeName_local hk hn (fun h' hn' hs => ?_) hcls
    obtain ⟨oL, _, _, hoL, _⟩ := id hn
    refine h _ ⟨I.ok, I.os, I.bare, ⟨fun b o e n hb hx => ?_, fun b o e n hb hx => ?_, I.base.free, fun b o e hx => ?_, I.base.tups, I.base.frzs, I.base.tbls⟩, ⟨_, hn', fun j y v' e1 e2 e3 => ?_⟩, fun y c e => ?_, I.free, I.freeC, fun p hp => ?_, tracked ⟨oL, hoL, I.free⟩ hs, by simpa using I.len⟩ ⟨_, hs, .inl rfl⟩
    · exact (hs.2 b (Nat.ne_of_lt (Nat.lt_of_lt_of_le (Heap.lt_size e) I.ok.above))).trans (I.base.keep b o e n hb hx)
    · obtain ⟨sl, e1⟩ := I.base.slot b o e n hb hx
      exact ⟨sl, (hs.2 b (Nat.ne_of_lt (Nat.lt_of_lt_of_le (Heap.lt_size e) I.ok.above))).trans e1⟩
    · obtain ⟨o', e1⟩ := I.base.there b o e hx
      exact ⟨o', (hs.2 b (Nat.ne_of_lt (Nat.lt_of_lt_of_le (Heap.lt_size e) I.ok.above))).trans e1⟩
    · by_cases hj : j = i
      · subst hj
        rw [hi] at e1; cases e1
        rw [List.getElem?_set_self hiσ] at e2
        cases e2
        exact ⟨u, r, .inl ⟨hk, by simp⟩⟩
      · rw [List.getElem?_set_ne (Ne.symm hj)] at e2
        obtain ⟨u', r', q⟩ := hl j y v' e1 e2 e3
        refine ⟨u', r', ?_⟩
        rcases q with ⟨k, e⟩ | ⟨k, c, e, z⟩
        · refine .inl ⟨k, ?_⟩
          have : y ≠ x := fun e => hj (nodup_ix hN e1 (e ▸ hi))
          simp [this, e]
        · exact .inr ⟨k, c, e, z.sameBut hs (cne y c e)⟩
    · obtain ⟨w', z⟩ := I.cell y c e
      exact ⟨w', z.sameBut hs (cne y c e)⟩
    · obtain ⟨e, n, ne, nf, d⟩ := I.pin p hp
      exact ⟨(hs.2 p.1 ne).trans e, n, ne, nf, d⟩
  · have hfn : X.fn x = true := by
      rcases hf with z | z
      · exact z
      · rw [z] at hk; cases hk
    obtain ⟨c, hc⟩ := I.ok.has x (.inl hk)
    obtain ⟨w', z⟩ := I.cell x c hc
    refine wpAny_storeName_cell I.ok.kind hk hc z (fun h' hc' hs => ?_)
    obtain ⟨oc, hoc, hocd⟩ := id z
    refine h { s with heap := h' } ⟨I.ok, I.os, I.bare, ⟨fun b o e n hb hx => ?_, fun b o e n hb hx => ?_, I.base.free, fun b o e hx => ?_, I.base.tups, I.base.frzs, I.base.tbls⟩, ⟨m, hn.sameBut hs (Ne.symm (cne x c hc)), fun j y v' e1 e2 e3 => ?_⟩, fun y c' e => ?_, I.free, I.freeC, fun p hp => ?_, tracked ⟨oc, hoc, I.freeC x c hc⟩ hs, by simpa using I.len⟩ ⟨c, hs, .inr hc⟩
    · exact (hs.2 b (Nat.ne_of_lt (Nat.lt_of_lt_of_le (Heap.lt_size e) (I.ok.cab x c hfn hc)))).trans (I.base.keep b o e n hb hx)
    · obtain ⟨sl, e1⟩ := I.base.slot b o e n hb hx
      exact ⟨sl, (hs.2 b (Nat.ne_of_lt (Nat.lt_of_lt_of_le (Heap.lt_size e) (I.ok.cab x c hfn hc)))).trans e1⟩
    · obtain ⟨o', e1⟩ := I.base.there b o e hx
      exact ⟨o', (hs.2 b (Nat.ne_of_lt (Nat.lt_of_lt_of_le (Heap.lt_size e) (I.ok.cab x c hfn hc)))).trans e1⟩
    · by_cases hj : j = i
      · subst hj
        rw [hi] at e1; cases e1
        rw [List.getElem?_set_self hiσ] at e2
        cases e2
        exact ⟨u, r, .inr ⟨.inl hk, c, hc, hc'⟩⟩
      · rw [List.getElem?_set_ne (Ne.symm hj)] at e2
        obtain ⟨u', r', q⟩ := hl j y v' e1 e2 e3
        refine ⟨u', r', ?_⟩
        rcases q with q | ⟨k, c', e, z'⟩
        · exact .inl q
        · refine .inr ⟨k, c', e, z'.sameBut hs ?_⟩
          rintro rfl
          exact hj (nodup_ix hN e1 (I.ok.inj _ _ _ e hc ▸ hi))
    · by_cases hcc : c' = c
      · subst hcc; exact ⟨_, hc'⟩
      · obtain ⟨w2, z2⟩ := I.cell y c' e
        exact ⟨w2, z2.sameBut hs hcc⟩
    · obtain ⟨e, n, ne, nf, d⟩ := I.pin p hp
      refine ⟨(hs.2 p.1 ?_).trans e, n, ne, nf, d⟩
      intro q
      rw [q, hoc] at e
      have q' : oc = p.2 := Option.some.inj e
      exact d w' (by rw [← q']; exact hocd)
theorem store_ok {M : Model} {A : Around} {E : Value → Shared → Prop} {i : Nat} {x : Str} {v : V} {u : Value} {Q : Unit → Shared → Prop} (I : Inv X pins σ H s) (hN : X.N.Nodup) (hi : X.N[i]? = some x) (hx : Loc X.env.scope x) (r : RelV v u)
    (h : ∀ s', Inv X pins (σ.set i (some v)) H s' → Q () s') (hf : X.fn x = true ∨ X.env.scope.names.lookup x = some .local := by first | exact .inl rfl | exact .inr rfl | assumption) : wpAny M A (storeName X.env x u) Q E s :=
  store_ok2 I hN hi hx r (fun s' I' _ => h s' I') hf
theorem Inv.call' {s' : Shared} {ch : List Addr} (I : Inv X pins σ H s) (ho : s'.os = s.os) (u : Un (frs X.stack) ch H H' s.heap s'.heap) (hok : HOk X.prog X.w H' s'.heap) (hg : AllBare s'.gens)
    (hch : ∀ b ∈ ch, (b ∈ X.ex ∨ X.s₀.heap.objs.size ≤ b) ∧ b ≠ X.env.locals ∧ (∀ x c, X.env.cells.lookup x = some c → c ≠ b) ∧ ∀ p ∈ X.pn ++ pins, p.1 ≠ b) : Inv X pins σ H' s' := by
  obtain ⟨h', g', d', t', o'⟩ := s'
  have e : o' = s.os := ho
  subst e
  exact I.call (g' := g') (t' := t') (d' := d') u hok hg hch
end

/-! ### the judgements -/
abbrev XK := Value → Option Addr → Hp → Prop
abbrev St := List (Option V)
abbrev VK := V → Hp → Prop
abbrev TE := St → Hp → VK → Prop
abbrev TT := St → Hp → (Bool → Hp → Prop) → Prop
abbrev TA := St → Hp → (List V → Hp → Prop) → Prop
structure Ends where
  nx : St → Hp → Prop
  rt : VK
  bk : St → Hp → Prop := fun _ _ => False
  ct : St → Hp → Prop := fun _ _ => False
abbrev TS := Ends → St → Hp → Prop

def EP (X : Cx) (pins : List (Addr × Obj)) (σ : St) (Q : VK) (u : Value) (s' : Shared) : Prop := ∃ v H', Inv X pins σ H' s' ∧ RelV v u ∧ Q v H'
def TP (X : Cx) (pins : List (Addr × Obj)) (σ : St) (Q : Bool → Hp → Prop) (b : Bool) (s' : Shared) : Prop := ∃ H', Inv X pins σ H' s' ∧ Q b H'
def AP (X : Cx) (pins : List (Addr × Obj)) (σ : St) (Q : List V → Hp → Prop) (us : List Value) (s' : Shared) : Prop := ∃ vs H', Inv X pins σ H' s' ∧ Vals vs us ∧ Q vs H'
def SP (X : Cx) (pins : List (Addr × Obj)) (D : Ends) (f : Flow) (s' : Shared) : Prop :=
  match f with
  | .next => ∃ σ' H', Inv X pins σ' H' s' ∧ D.nx σ' H'
  | .brk => ∃ σ' H', Inv X pins σ' H' s' ∧ D.bk σ' H'
  | .cont => ∃ σ' H', Inv X pins σ' H' s' ∧ D.ct σ' H'
  | .ret u => ∃ v σ' H', Inv X pins σ' H' s' ∧ RelV v u ∧ D.rt v H'

def PE (X : Cx) (e : Expr) (t : TE) : Prop :=
  ∀ (pins : List (Addr × Obj)) (s : Shared) (σ : St) (H : Hp) (Q : VK), Inv X pins σ H s → t σ H Q → wpAny (model X.prog X.w) X.A (eval e X.env) (EP X pins σ Q) X.xe s
def PT (X : Cx) (e : Expr) (t : TT) : Prop :=
  ∀ (pins : List (Addr × Obj)) (s : Shared) (σ : St) (H : Hp) (Q : Bool → Hp → Prop), Inv X pins σ H s → t σ H Q → wpAny (model X.prog X.w) X.A (isTrue e X.env (eval e X.env)) (TP X pins σ Q) X.xe s
def PW (X : Cx) (e : Expr) (t : TT) : Prop :=
  ∀ (whole : Sem Value) (pins : List (Addr × Obj)) (s : Shared) (σ : St) (H : Hp) (Q : Bool → Hp → Prop), Inv X pins σ H s → t σ H Q → wpAny (model X.prog X.w) X.A (isTrue e X.env whole) (TP X pins σ Q) X.xe s
theorem PW.pt {X : Cx} {e : Expr} {t : TT} (h : PW X e t) : PT X e t := h _
def PA (X : Cx) (es : List Expr) (t : TA) : Prop :=
  ∀ (pos : Pos) (pins : List (Addr × Obj)) (s : Shared) (σ : St) (H : Hp) (Q : List V → Hp → Prop), Inv X pins σ H s → t σ H Q → wpAny (model X.prog X.w) X.A (spliced (backTo pos (starEach es X.env))) (AP X pins σ Q) X.xe s
def PS (X : Cx) (st : Stmt) (t : TS) : Prop :=
  ∀ (pins : List (Addr × Obj)) (s : Shared) (σ : St) (H : Hp) (D : Ends), Inv X pins σ H s → t D σ H → wpAny (model X.prog X.w) X.A (exec st X.env) (SP X pins D) X.xe s
def PSs (X : Cx) (st : List Stmt) (t : TS) : Prop :=
  ∀ (pins : List (Addr × Obj)) (s : Shared) (σ : St) (H : Hp) (D : Ends), Inv X pins σ H s → t D σ H → wpAny (model X.prog X.w) X.A (execs st X.env) (SP X pins D) X.xe s
theorem thn {α : Type} {t : Sem α} {Q Q' : α → Shared → Prop} {M : Model} {A : Around} {E : Value → Shared → Prop} {s : Shared} (h : wpAny M A t Q E s) (hQ : ∀ a s, Q a s → Q' a s) : wpAny M A t Q' E s := wpAny_mono h hQ fun _ _ x => x
end L2

namespace L2
open PySem PySem.Spec PyProof.Rows
section
variable {X : Cx}

/-! ### names and constants -/
def tVar (i : Nat) : TE := fun σ H Q => ∃ v, σ[i]? = some (some v) ∧ Q v H
def tC (v : V) : TE := fun _ H Q => Q v H
theorem pe_var {i : Nat} {x : Str} {pos : Pos} (hN : X.N[i]? = some x) (hv : Vis X.env.scope x) (hd : (x == ("__debug__" : Str)) = false := by decide) (hcd : (x == ("__classdict__" : Str)) = false := by decide) : PE X (.Name x pos) (tVar i) := by
  intro pins s σ H Q I h
  obtain ⟨v, e, h⟩ := h
  obtain ⟨m, hn, hl⟩ := I.loc
  obtain ⟨u, r, l⟩ := hl i x v hN e hv
  have fin : EP X pins σ Q u s := ⟨v, H, I, r, h⟩
  rcases l with ⟨hk, hm⟩ | ⟨hk, c, hc, hcell⟩
  · exact wpAny_Name (wpAny_loadName_local I.ok.kind hk hn hm fin) hd
  · rcases hk with hk | hk
    · exact wpAny_Name (wpAny_loadName_cell I.ok.kind hk hc hcell fin) hd
    · exact wpAny_Name (wpAny_loadName_free I.ok.kind hk hc hcell fin hcd) hd
theorem pe_int {i j pos} : PE X (.Constant (.int i) j pos) (tC (.int i)) := fun _ _ _ H _ I h => wpAny_Constant_int ⟨.int i, H, I.tok _, ⟨_, rfl⟩, h⟩
theorem pe_bl {b j pos} : PE X (.Constant (.bool b) j pos) (tC (.bl b)) := fun _ _ _ H _ I h => Constant_bool ⟨.bl b, H, I, rfl, h⟩
theorem pe_non {j pos} : PE X (.Constant .none j pos) (tC .non) := fun _ _ _ H _ I h => Constant_none ⟨.non, H, I, rfl, h⟩
theorem pe_str {x j pos} : PE X (.Constant (.str x) j pos) (tC (.str x)) := fun _ _ _ H _ I h => Calls.Constant_str ⟨.str x, H, I.tok _, ⟨_, rfl⟩, h⟩

def Gl (X : Cx) (x : Str) : Prop := X.env.kindOf x = some .globalImplicit
theorem ld_glob {E : Value → Shared → Prop} {pins : List (Addr × Obj)} {s : Shared} {σ : St} {H : Hp} {x : Str} {u : Value} {pos : Pos} {Q : Value → Shared → Prop} (I : Inv X pins σ H s) (hg : Gl X x) (hm : X.mg x = some u) (h : Q u s)
    (hd : (x == ("__debug__" : Str)) = false := by decide) : wpAny (model X.prog X.w) X.A (eval (.Name x pos) X.env) Q E s :=
  Calls.Name_function_global I.ok.kind hg (Calls.loadGlobal_global (by rw [I.ok.glob]; exact I.mod.glob.keeps I.bk) hm h) hd
theorem ld_blt {E : Value → Shared → Prop} {pins : List (Addr × Obj)} {s : Shared} {σ : St} {H : Hp} {x : Str} {u : Value} {pos : Pos} {Q : Value → Shared → Prop} (I : Inv X pins σ H s) (hg : Gl X x) (hm : X.mg x = none) (hv : bootBuiltins x = some u) (h : Q u s)
    (hn : x ≠ "__name__" := by decide) (hd : (x == ("__debug__" : Str)) = false := by decide) : wpAny (model X.prog X.w) X.A (eval (.Name x pos) X.env) Q E s := by
  obtain ⟨mb, h1, h2⟩ := I.mod.blt
  exact Calls.Name_function_global I.ok.kind hg (Calls.loadGlobal_builtin (by rw [I.ok.glob]; exact I.mod.glob.keeps I.bk) hm (by rw [I.ok.blt]; exact h1.keeps I.bk) ((h2 x hn).trans hv) h) hd
theorem pe_glob {x : Str} {v : V} {u : Value} {pos : Pos} (hg : Gl X x) (hm : X.mg x = some u) (r : RelV v u) (hd : (x == ("__debug__" : Str)) = false := by decide) : PE X (.Name x pos) (tC v) :=
  fun _ _ _ H _ I h => ld_glob I hg hm ⟨v, H, I, r, h⟩ hd
theorem pe_bltn {x : Str} {v : V} {u : Value} {pos : Pos} (hg : Gl X x) (hm : X.mg x = none) (hv : bootBuiltins x = some u) (r : RelV v u) (hn : x ≠ "__name__" := by decide) (hd : (x == ("__debug__" : Str)) = false := by decide) : PE X (.Name x pos) (tC v) :=
  fun _ _ _ H _ I h => ld_blt I hg hm hv ⟨v, H, I, r, h⟩ hn hd

/-! ### arithmetic -/
variable {a b : Expr} {ta tb : TE} {pos : Pos}
/-! ### comparisons -/
def PC (X : Cx) (op : CmpOp) (a b : Expr) (t : TE) : Prop :=
  ∀ (pins : List (Addr × Obj)) (s : Shared) (σ : St) (H : Hp) (Q : VK), Inv X pins σ H s → t σ H Q →
    wpAny (model X.prog X.w) X.A (eval a X.env) (fun v s₁ => wpAny (model X.prog X.w) X.A (eval b X.env) (fun u s₂ => wpAny (model X.prog X.w) X.A (compareOp op v u) (EP X pins σ Q) X.xe s₂) X.xe s₁) X.xe s
def tB (t : TE) : TT := fun σ H Q => t σ H fun x H1 => ∃ c, x = .bl c ∧ Q c H1
theorem pt_cmp {op : CmpOp} {t : TE} (h : PC X op a b t) (h1 : behindInMarks op b = false := by first | exact nobehind _ (by decide) (by decide) | rfl) : PT X (.Compare a [op] [b] pos) (tB t) := by
  intro pins s σ H Q I hw
  refine wpAny_isTrue_Compare1 (thn (h pins s σ H _ I hw) fun v s1 h1 => thn h1 fun u s2 h2 => thn h2 fun c s3 ⟨x, H1, I1, r1, q1⟩ => ?_) h1
  obtain ⟨d, rfl, q⟩ := q1
  cases r1
  exact wpAny_truthy_bool ⟨H1, I1, q⟩
theorem pt_val {e : Expr} {t : TE} (h : PE X e t) (he : ∀ whole, isTrue e X.env whole = (do let v ← whole; standAt e.pos; holding [v] (truthy v)) := by intro _; rfl) : PT X e (tB t) := by
  intro pins s σ H Q I hw
  refine isTrue_plain (thn (h pins s σ H _ I hw) fun v s1 ⟨x, H1, I1, r1, q1⟩ => ?_) (he _)
  obtain ⟨d, rfl, q⟩ := q1
  cases r1
  exact wpAny_truthy_bool ⟨H1, I1, q⟩

/-! ### and, or, not -/
variable {tA tB' : TT} {rest : List Expr}
def tAnd (t u : TT) : TT := fun σ H Q => t σ H fun c H1 => if c = true then u σ H1 Q else Q false H1
def tOr (t u : TT) : TT := fun σ H Q => t σ H fun c H1 => if c = true then Q true H1 else u σ H1 Q
def tNot (t : TT) : TT := fun σ H Q => t σ H fun c H1 => Q (!c) H1
theorem pw_and1 (ha : PT X a tA) : PW X (.BoolOp .And [a] pos) tA := by
  intro wh pins s σ H Q I h
  refine isTrue_and (thn (ha pins s σ H Q I h) fun c s1 e => ?_)
  cases c with
  | true => exact isTrue_and_nil e
  | false => exact e
theorem pw_or1 (ha : PT X a tA) : PW X (.BoolOp .Or [a] pos) tA := by
  intro wh pins s σ H Q I h
  refine isTrue_or (thn (ha pins s σ H Q I h) fun c s1 e => ?_)
  cases c with
  | false => exact isTrue_or_nil e
  | true => exact e
theorem pw_and (ha : PT X a tA) (hb : PW X (.BoolOp .And (b :: rest) pos) tB') : PW X (.BoolOp .And (a :: b :: rest) pos) (tAnd tA tB') := by
  intro wh pins s σ H Q I h
  refine isTrue_and (thn (ha pins s σ H _ I h) fun c s1 ⟨H1, I1, q1⟩ => ?_)
  cases c with
  | true => exact hb wh pins s1 σ H1 Q I1 q1
  | false => exact ⟨H1, I1, q1⟩
theorem pw_or (ha : PT X a tA) (hb : PW X (.BoolOp .Or (b :: rest) pos) tB') : PW X (.BoolOp .Or (a :: b :: rest) pos) (tOr tA tB') := by
  intro wh pins s σ H Q I h
  refine isTrue_or (thn (ha pins s σ H _ I h) fun c s1 ⟨H1, I1, q1⟩ => ?_)
  cases c with
  | true => exact ⟨H1, I1, q1⟩
  | false => exact hb wh pins s1 σ H1 Q I1 q1
theorem pt_not (ha : PT X a tA) : PT X (.UnaryOp .Not a pos) (tNot tA) := by
  intro pins s σ H Q I h
  exact isTrue_not (ha pins s σ H (fun c H1 => Q (!c) H1) I h)
def tOrV (ta tb : TE) : TE := fun σ H Q => ta σ H fun x H1 => ∃ c, x = .bl c ∧ if c = true then Q (.bl true) H1 else tb σ H1 Q
def tNotV (ta : TE) : TE := fun σ H Q => ta σ H fun x H1 => ∃ c, x = .bl c ∧ Q (.bl (!c)) H1
theorem pe_or (ha : PE X a ta) (hb : PE X (.BoolOp .Or (b :: rest) pos) tb) : PE X (.BoolOp .Or (a :: b :: rest) pos) (tOrV ta tb) := by
  intro pins s σ H Q I h
  refine BoolOp_or (thn (ha pins s σ H _ I h) fun v s1 ⟨x, H1, I1, r1, q1⟩ => ?_)
  obtain ⟨c, rfl, q1⟩ := q1
  cases r1
  refine wpAny_truthy_bool ?_
  cases c with
  | false => exact hb pins s1 σ H1 Q I1 q1
  | true => exact ⟨.bl true, H1, I1, rfl, q1⟩
theorem pe_not (ha : PE X a ta) : PE X (.UnaryOp .Not a pos) (tNotV ta) := by
  intro pins s σ H Q I h
  refine UnaryOp_ (thn (ha pins s σ H _ I h) fun v s1 ⟨x, H1, I1, r1, q1⟩ => ?_)
  obtain ⟨c, rfl, q1⟩ := q1
  cases r1
  exact not_of (wpAny_truthy_bool ⟨.bl (!c), H1, I1, rfl, q1⟩)
end
end L2

namespace L2
open PySem PySem.Spec PyProof.Rows

/-! ### a list, a tuple that is read: tracked, frozen, or an object of the module -/
def SqL (K : PySem.W.Frag) (H : Hp) (a : Addr) (xs : List V) : Prop :=
  Rd H a (.lst xs) ∨
    ∃ (o : Obj) (its : Array Value) (n : Nat), K.lookup a = some o ∧ o.cls = .type "list" ∧ o.dict = none ∧ o.data = .seq its n ∧ its.size ≤ sizeLine ∧ Vals xs its.toList
def SqT (K : PySem.W.Frag) (H : Hp) (a : Addr) (xs : List V) : Prop :=
  Rd H a (.tup xs) ∨
    ∃ (o : Obj) (its : Array Value) (n : Nat), K.lookup a = some o ∧ o.cls = .type "tuple" ∧ o.data = .seq its n ∧ its.size ≤ sizeLine ∧ Vals xs its.toList
def absV : Value → Option V
  | .none => some .non
  | .bool b => some (.bl b)
  | .int i _ => some (.int i)
  | .str x _ => some (.str x)
  | .bytes b _ => some (.byt b)
  | .float b _ => some (.flt b)
  | .ref a => some (.ref a)
  | .type n => some (.ty n)
  | _ => none
theorem RelV.abs {x : V} {u : Value} (r : RelV x u) : absV u = some x := by
  cases x with
  | non => cases r; rfl
  | bl _ => cases r; rfl
  | int _ => obtain ⟨t, rfl⟩ := r; rfl
  | str _ => obtain ⟨t, rfl⟩ := r; rfl
  | byt _ => obtain ⟨t, rfl⟩ := r; rfl
  | flt _ => obtain ⟨t, rfl⟩ := r; rfl
  | ref _ => cases r; rfl
  | ty _ => cases r; rfl
theorem RelV.inj {x y : V} {u : Value} (r : RelV x u) (q : RelV y u) : x = y := Option.some.inj (r.abs.symm.trans q.abs)
theorem Vals.inj : ∀ {xs ys : List V} {us : List Value}, Vals xs us → Vals ys us → xs = ys
  | _, _, _, .nil, .nil => rfl
  | _, _, _, .cons r t, .cons r' t' => by rw [r.inj r', Vals.inj t t']
section
variable {X : Cx} {pins : List (Addr × Obj)} {σ : St} {H : Hp} {s : Shared} {a : Addr} {xs ys : List V}
theorem SqL.of {K : PySem.W.Frag} (h : H a = some (.lst xs)) : SqL K H a xs := .inl (.inl h)
theorem SqT.of {K : PySem.W.Frag} (h : H a = some (.tup xs)) : SqT K H a xs := .inl (.inl h)
theorem Inv.list (I : Inv X pins σ H s) (h : SqL X.K H a xs) : ∃ its : List Value, Vals xs its ∧ PlainL s.heap a its.toArray ∧ xs.length ≤ sizeLine := by
  rcases h with h | ⟨o, its, n, hk, hc, hd, hs, hz, r⟩
  · obtain ⟨z, its, n, r, e⟩ := h.ok I.hok
    exact ⟨its, r, ⟨_, n, e, rfl, rfl, rfl⟩, z⟩
  · refine ⟨its.toList, r, ⟨o, n, I.kIn a o hk, hc, hd, by simpa using hs⟩, ?_⟩
    have e := r.length
    simp only [Array.length_toList] at e
    omega
theorem Inv.tuple (I : Inv X pins σ H s) (h : SqT X.K H a xs) : ∃ its : List Value, Vals xs its ∧ IsTup s.heap a its.toArray ∧ xs.length ≤ sizeLine := by
  rcases h with h | ⟨o, its, n, hk, hc, hs, hz, r⟩
  · obtain ⟨z, its, r, p⟩ := h.ok I.hok
    exact ⟨its, r, p, z⟩
  · refine ⟨its.toList, r, ⟨o, I.kIn a o hk, hc, n, by simpa using hs⟩, ?_⟩
    have e := r.length
    simp only [Array.length_toList] at e
    omega
theorem Inv.list_inj (I : Inv X pins σ H s) (h : SqL X.K H a xs) (h' : SqL X.K H a ys) : xs = ys := by
  obtain ⟨its, r, ⟨o, n, e, _, _, d⟩, _⟩ := I.list h
  obtain ⟨its', r', ⟨o', n', e', _, _, d'⟩, _⟩ := I.list h'
  rw [e] at e'; cases e'
  rw [d] at d'
  injection d' with d1 _
  have : its = its' := by simpa using congrArg Array.toList d1
  subst this
  exact r.inj r'
theorem Inv.tuple_inj (I : Inv X pins σ H s) (h : SqT X.K H a xs) (h' : SqT X.K H a ys) : xs = ys := by
  obtain ⟨its, r, ⟨o, e, _, n, d⟩, _⟩ := I.tuple h
  obtain ⟨its', r', ⟨o', e', _, n', d'⟩, _⟩ := I.tuple h'
  rw [e] at e'; cases e'
  rw [d] at d'
  injection d' with d1 _
  have : its = its' := by simpa using congrArg Array.toList d1
  subst this
  exact r.inj r'
end

/-! ### another wish about exceptions -/
abbrev Cx.wish (X : Cx) (E : Value → Shared → Prop) : Cx := { X with xe := E }
abbrev Cx.nox (X : Cx) : Cx := X.wish fun _ _ => False
theorem Cx.Ok.wish {X : Cx} (ok : X.Ok) (E : Value → Shared → Prop) : (X.wish E).Ok :=
  ⟨ok.mod, ok.kind, ok.glob, ok.blt, ok.above, ok.inj, ok.has, ok.cab, ok.hd, ok.frames, ok.stk, ok.exf, ok.bs, ok.bsz, ok.noex, ok.exfs, ok.funs, ok.frf⟩
theorem Cx.Ok.unwish {X : Cx} {E : Value → Shared → Prop} (ok : (X.wish E).Ok) : X.Ok :=
  ⟨ok.mod, ok.kind, ok.glob, ok.blt, ok.above, ok.inj, ok.has, ok.cab, ok.hd, ok.frames, ok.stk, ok.exf, ok.bs, ok.bsz, ok.noex, ok.exfs, ok.funs, ok.frf⟩
section
variable {X : Cx} {pins : List (Addr × Obj)} {σ : St} {H : Hp} {s : Shared} {E : Value → Shared → Prop}
theorem Inv.wish (I : Inv X pins σ H s) (E : Value → Shared → Prop) : Inv (X.wish E) pins σ H s := ⟨I.ok.wish E, I.os, I.bare, I.base, I.loc, I.cell, I.free, I.freeC, I.pin, I.hok, I.len⟩
theorem Inv.unwish (I : Inv (X.wish E) pins σ H s) : Inv X pins σ H s := ⟨I.ok.unwish, I.os, I.bare, I.base, I.loc, I.cell, I.free, I.freeC, I.pin, I.hok, I.len⟩
theorem SP.unwish {D : Ends} {f : Flow} {s' : Shared} (h : SP (X.wish E) pins D f s') : SP X pins D f s' := by
  cases f with
  | next => obtain ⟨σ', H', I, q⟩ := h; exact ⟨σ', H', I.unwish, q⟩
  | brk => obtain ⟨σ', H', I, q⟩ := h; exact ⟨σ', H', I.unwish, q⟩
  | cont => obtain ⟨σ', H', I, q⟩ := h; exact ⟨σ', H', I.unwish, q⟩
  | ret u => obtain ⟨v, σ', H', I, r, q⟩ := h; exact ⟨v, σ', H', I.unwish, r, q⟩
theorem PSs.nox {st : List Stmt} {t : TS} (h : PSs X.nox st t) : PSs X st t := fun pins s σ H D I hw =>
  wpAny_mono (h pins s σ H D (I.wish _) hw) (fun _ _ q => q.unwish) fun _ _ z => False.elim z
end

/-! ### blocks and small statements -/
section
variable {X : Cx} {st : Stmt} {rest : List Stmt} {t u : TS} {e : Expr} {te : TE} {pos : Pos}
def tNext : TS := fun D σ H => D.nx σ H
def tSeq (t u : TS) : TS := fun D σ H => t { D with nx := u D } σ H
theorem pss_nil : PSs X [] tNext := fun _ _ σ H _ I h => wpAny_execs_nil ⟨σ, H, I, h⟩
theorem pss_cons (h1 : PS X st t) (h2 : PSs X rest u) : PSs X (st :: rest) (tSeq t u) := by
  intro pins s σ H D I h
  refine wpAny_execs_cons (thn (h1 pins s σ H { D with nx := u D } I h) fun f s1 q => ?_)
  cases f with
  | next =>
    obtain ⟨σ', H', I', q⟩ := q
    exact h2 pins s1 σ' H' D I' q
  | ret v => exact q
  | brk => exact q
  | cont => exact q
theorem pss_one (h1 : PS X st t) : PSs X [st] t := by
  intro pins s σ H D I h
  refine wpAny_execs_cons (thn (h1 pins s σ H D I h) fun f s1 q => ?_)
  cases f with
  | next => exact wpAny_execs_nil q
  | ret v => exact q
  | brk => exact q
  | cont => exact q
theorem Inv.quiet {pins : List (Addr × Obj)} {σ : St} {H : Hp} {s : Shared} (I : Inv X pins σ H s) : interactive X.env = false := by simp [interactive, I.ok.kind]
def tDrop (te : TE) : TS := fun D σ H => te σ H fun _ H1 => D.nx σ H1
theorem ps_expr (he : PE X e te) (hs : swapsWith e none pos.line X.env = pure false := by rfl) : PS X (.Expr e pos) (tDrop te) := by
  intro pins s σ H D I h
  exact wpAny_Expr_any (thn (he pins s σ H _ I h) fun v s1 ⟨x, H1, I1, r1, q1⟩ => ⟨σ, H1, I1, q1⟩) I.quiet hs
def tRet (te : TE) : TS := fun D σ H => te σ H D.rt
theorem ps_ret (he : PE X e te) : PS X (.Return (some e) pos) (tRet te) := by
  intro pins s σ H D I h
  exact wpAny_Return_some (thn (he pins s σ H _ I h) fun v s1 ⟨x, H1, I1, r1, q1⟩ => ⟨x, σ, H1, I1, r1, q1⟩)
def tIfS (c : TT) (t u : TS) : TS := fun D σ H => c σ H fun b H1 => if b = true then t D σ H1 else u D σ H1
theorem ps_if {c : Expr} {a b : List Stmt} {tc : TT} (hc : PT X c tc) (ha : PSs X a t) (hb : PSs X b u) : PS X (.If c a b pos) (tIfS tc t u) := by
  intro pins s σ H D I h
  refine wpAny_If (thn (hc pins s σ H _ I h) fun d s1 ⟨H1, I1, q1⟩ => ?_)
  cases d with
  | true => exact ha pins s1 σ H1 D I1 q1
  | false => exact hb pins s1 σ H1 D I1 q1
end

/-! ### targets -/
abbrev TG := V → St → Hp → (St → Hp → Prop) → Prop
abbrev TGs := List V → St → Hp → (St → Hp → Prop) → Prop
def PG (X : Cx) (target : Expr) (t : TG) : Prop :=
  ∀ (pins : List (Addr × Obj)) (s : Shared) (σ : St) (H : Hp) (v : V) (u : Value) (Q : St → Hp → Prop), Inv X pins σ H s → RelV v u → t v σ H Q →
    wpAny (model X.prog X.w) X.A (assign target X.env u) (fun _ s' => ∃ σ' H', Inv X pins σ' H' s' ∧ Q σ' H') X.xe s
def PGs (X : Cx) (ts : List Expr) (t : TGs) : Prop :=
  ∀ (pins : List (Addr × Obj)) (s : Shared) (σ : St) (H : Hp) (vs : List V) (us : List Value) (Q : St → Hp → Prop), Inv X pins σ H s → Vals vs us → t vs σ H Q →
    wpAny (model X.prog X.w) X.A (assignInOrder ((assignEach ts X.env).map (·.2)) us) (fun _ s' => ∃ σ' H', Inv X pins σ' H' s' ∧ Q σ' H') X.xe s
section
variable {X : Cx} {pos : Pos}
def gName (i : Nat) : TG := fun v σ H Q => Q (σ.set i (some v)) H
theorem pg_name {i : Nat} {x : Str} (hN : X.N.Nodup) (hi : X.N[i]? = some x) (hx : Loc X.env.scope x) (hf : X.fn x = true ∨ X.env.scope.names.lookup x = some .local := by first | exact .inl rfl | exact .inr rfl | assumption) : PG X (.Name x pos) (gName i) := by
  intro pins s σ H v u Q I r h
  exact wpAny_assign_Name (store_ok I hN hi hx r (fun s' I' => ⟨_, H, I', h⟩) hf)
def gNil : TGs := fun vs σ H Q => vs = [] ∧ Q σ H
def gCons (t : TG) (u : TGs) : TGs := fun vs σ H Q => ∃ v r, vs = v :: r ∧ t v σ H fun σ' H' => u r σ' H' Q
theorem pgs_nil : PGs X [] gNil := by
  intro pins s σ H vs us Q I r h
  obtain ⟨e, h⟩ := h
  subst e
  cases r
  exact assignInOrder_nil ⟨σ, H, I, h⟩
theorem pgs_cons {e : Expr} {es : List Expr} {t : TG} {u : TGs} (h1 : PG X e t) (h2 : PGs X es u)
    (hs : (assignEach (e :: es) X.env).map (·.2) = assign e X.env :: (assignEach es X.env).map (·.2) := by rfl) : PGs X (e :: es) (gCons t u) := by
  intro pins s σ H vs us Q I r h
  obtain ⟨v, vr, e1, h⟩ := h
  subst e1
  cases r with
  | cons r rr =>
    rw [hs]
    refine assignInOrder_cons (thn (h1 pins s σ H _ _ _ I r h) fun _ s1 ⟨σ1, H1, I1, q1⟩ => ?_)
    exact h2 pins s1 σ1 H1 _ _ Q I1 rr q1
def gTup (K : PySem.W.Frag) (n : Nat) (t : TGs) : TG := fun v σ H Q => ∃ a xs, v = .ref a ∧ SqT K H a xs ∧ xs.length = n ∧ t xs σ H Q
theorem pg_tup {es : List Expr} {k : Nat} {t : TGs} {n : Nat} (hc : X.calm = true) (h : PGs X es t)
    (hn : (assignEach es X.env).length = n := by rfl) (hst : (assignEach es X.env).findIdx? (·.1) = none := by rfl) : PG X (.Tuple es k pos) (gTup X.K n t) := by
  intro pins s σ H v u Q I r hw
  obtain ⟨a, xs, e1, hq, hl, hw⟩ := hw
  subst e1
  cases r
  obtain ⟨its, rv, ht, hz⟩ := I.tuple hq
  refine assign_Tuple_tuple (I.ok.hd hc) ht (by simp [hn, ← hl, rv.length]) hst fun h' hx => ?_
  have I1 : Inv X pins σ H { s with heap := h' } := I.kept (t' := s.toks) fun b o e => hx b o (Nat.ne_of_lt (Heap.lt_size e)) e
  exact h pins _ σ H xs _ Q I1 (by simpa using rv) hw
def tAsg (te : TE) (g : TG) : TS := fun D σ H => te σ H fun x H1 => g x σ H1 D.nx
theorem ps_asg {tg e : Expr} {te : TE} {g : TG} (he : PE X e te) (hg : PG X tg g) (hs : swapsWithSole [tg] e pos.line X.env = pure false := by rfl) (hw : swappedStores [tg] e X.env = pure none := by rfl)
    (h1 : (assignEach [tg] X.env).map (·.2) = [assign tg X.env] := by rfl) : PS X (.Assign [tg] e pos) (tAsg te g) := by
  intro pins s σ H D I h
  refine wpAny_Assign_stores (thn (he pins s σ H _ I h) fun v s1 ⟨x, H1, I1, r1, q1⟩ => ?_) hs hw
  rw [h1]
  exact thn (hg pins s1 σ H1 x v _ I1 r1 q1) fun _ s2 q => q
theorem ps_set {i : Nat} {x : Str} {e : Expr} {te : TE} {pos' : Pos} (hN : X.N.Nodup) (hi : X.N[i]? = some x) (hx : Loc X.env.scope x) (he : PE X e te) (hs : swapsWith e (some (.Name x pos')) pos.line X.env = pure false := by rfl) (hf : X.fn x = true ∨ X.env.scope.names.lookup x = some .local := by first | exact .inl rfl | exact .inr rfl | assumption) :
    PS X (.Assign [.Name x pos'] e pos) (tAsg te (gName i)) := by
  intro pins s σ H D I h
  refine wpAny_Assign_Name (thn (he pins s σ H _ I h) fun v s1 ⟨y, H1, I1, r1, q1⟩ => ?_) hs
  exact store_ok I1 hN hi hx r1 (fun s2 I2 => ⟨_, H1, I2, q1⟩) hf
end

/-! ### while -/
section
variable {X : Cx} {pos : Pos}
end

/-! ### what a loop or a comprehension walks -/
structure It where
  go : Nat → Hp → Prop
  yld : Nat → Hp → V → Hp → Prop
  stop : Nat → Hp → Prop
def FpOk (X : Cx) (pins : List (Addr × Obj)) (H : Hp) (b : Addr) : Prop :=
  H b = none ∧ b ≠ X.env.locals ∧ b ∉ X.fs ∧ (b ∈ X.ex ∨ X.s₀.heap.objs.size ≤ b) ∧ (∀ x c, X.env.cells.lookup x = some c → c ≠ b) ∧ ∀ p ∈ X.pn ++ pins, p.1 ≠ b
theorem Inv.fpOk {X : Cx} {pins : List (Addr × Obj)} {σ : St} {H H' : Hp} {s : Shared} {b : Addr} (I : Inv X pins σ H s) (hb : s.heap.objs.size ≤ b) (hn : H' b = none) : FpOk X pins H' b := by
  refine ⟨hn, Nat.ne_of_gt (Nat.lt_of_lt_of_le I.lt hb), I.nofs hb, .inr (Nat.le_trans I.sz hb), fun x c e z => ?_, fun p hp z => ?_⟩
  · obtain ⟨v, q⟩ := I.cell x c e
    exact absurd (Nat.lt_of_lt_of_le q.lt (by rw [z]; exact hb)) (Nat.lt_irrefl _)
  · exact absurd (Nat.lt_of_lt_of_le (Heap.lt_size (I.pin p hp).1) (by rw [z]; exact hb)) (Nat.lt_irrefl _)
structure Turn (P : Program) (w : World) (K : PySem.W.Frag) (tg : Expr) (J : It) (fp : List Addr) (it : Addr) (tn : Nat → Heap → Prop) : Prop where
  mem : it ∈ fp
  obj : ∀ i h, tn i h → ∀ b ∈ fp, ∃ o, h.get? b = some o ∧ ∀ v, o.data ≠ .cell v
  keep : ∀ i h h', tn i h → (∀ b ∈ fp, ∀ o, h.get? b = some o → h'.get? b = some o) → tn i h'
  item : ∀ (X : Cx), X.prog = P → X.w = w → X.K = K → X.calm = true → ∀ (i : Nat) (pins : List (Addr × Obj)) (s : Shared) (σ : St) (H : Hp) (E : Value → Shared → Prop), Inv X pins σ H s → (∀ b ∈ fp, FpOk X pins H b) → tn i s.heap → J.go i H →
    wpAny (model P w) X.A (pyNext (.ref it)) (fun r s1 => ∃ u, r = some u ∧
      wpAny (model P w) X.A (letOwnedTupleGo tg (.ref it) u) (fun _ s2 => ∃ x H', Inv X pins σ H' s2 ∧ RelV x u ∧ J.yld i H x H' ∧ tn (i + 1) s2.heap ∧ ∀ b ∈ fp, H' b = none) E s1) E s
  done : ∀ (X : Cx), X.prog = P → X.w = w → X.K = K → X.calm = true → ∀ (i : Nat) (pins : List (Addr × Obj)) (s : Shared) (σ : St) (H : Hp) (E : Value → Shared → Prop), Inv X pins σ H s → (∀ b ∈ fp, FpOk X pins H b) → tn i s.heap → J.stop i H →
    wpAny (model P w) X.A (pyNext (.ref it)) (fun r s1 => r = none ∧ Inv X pins σ H s1) E s
  self : ∀ (A : Around) (i : Nat) (s : Shared) (Q : Value → Shared → Prop) (E : Value → Shared → Prop), tn i s.heap → Q (.ref it) s → wpAny (model P w) A (pyIter (.ref it)) Q E s
abbrev TI := St → Hp → (It → Hp → Prop) → Prop
def PIE (X : Cx) (pins : List (Addr × Obj)) (σ : St) (tg : Expr) (R : It → Hp → Prop) (itv : Value) (s2 : Shared) : Prop :=
  ∃ (it : Addr) (fp : List Addr) (tn : Nat → Heap → Prop) (J : It) (H' : Hp), itv = .ref it ∧ Inv X pins σ H' s2 ∧ Turn X.prog X.w X.K tg J fp it tn ∧ tn 0 s2.heap ∧ (∀ b ∈ fp, FpOk X pins H' b) ∧ R J H'
def PI (X : Cx) (tg iter : Expr) (wi : TI) : Prop :=
  ∀ (pins : List (Addr × Obj)) (s : Shared) (σ : St) (H : Hp) (R : It → Hp → Prop), Inv X pins σ H s → wi σ H R →
    wpAny (model X.prog X.w) X.A (eval iter X.env) (fun v s1 => wpAny (model X.prog X.w) X.A (pyIter v) (PIE X pins σ tg R) X.xe s1) X.xe s

theorem go_of {M : Model} {A : Around} {E : Value → Shared → Prop} {s : Shared} {tg : Expr} {it : Addr} {u : Value} {o : Obj} {n : String} {vs : Array Value} {Q : Unit → Shared → Prop} (ho : s.heap.get? it = some o) (hc : o.cls = .type n) (hd : o.data = .fields vs)
    (hn : ["enumerate", "zip", "dict_itemiterator", "dict_reverseitemiterator", "odict_iterator", "itertools.zip_longest", "itertools.pairwise"].contains n = false) (hQ : Q () s) : wpAny M A (letOwnedTupleGo tg (.ref it) u) Q E s := by
  unfold letOwnedTupleGo
  cases tg <;> first
    | exact wpAny_pure hQ
    | (cases u <;> first
        | exact wpAny_pure hQ
        | (refine wpAny_bind (wpAny_load ho ?_)
           rw [hc, hd]
           show wpAny M A (if (["enumerate", "zip", "dict_itemiterator", "dict_reverseitemiterator", "odict_iterator", "itertools.zip_longest", "itertools.pairwise"].contains n && vs[0]? == some (rawInt _)) = true then _ else _) Q E s
           rw [if_neg (by intro h; rw [hn, Bool.false_and] at h; cases h)]
           exact wpAny_pure hQ))

def Itl (K : PySem.W.Frag) (a : Addr) : It :=
  ⟨fun i H => ∃ xs x, SqL K H a xs ∧ xs[i]? = some x, fun i H x H' => H' = H ∧ ∀ xs, SqL K H a xs → xs[i]? = some x, fun i H => ∃ xs, SqL K H a xs ∧ xs.length ≤ i⟩
def Itt (K : PySem.W.Frag) (a : Addr) : It :=
  ⟨fun i H => ∃ xs x, SqT K H a xs ∧ xs[i]? = some x, fun i H x H' => H' = H ∧ ∀ xs, SqT K H a xs → xs[i]? = some x, fun i H => ∃ xs, SqT K H a xs ∧ xs.length ≤ i⟩
def Itr (lo : Int) (n : Nat) : It := ⟨fun i _ => i < n, fun i H x H' => H' = H ∧ x = .int (lo + i), fun i _ => n ≤ i⟩
theorem turn_list {P : Program} {w : World} {K : PySem.W.Frag} {tg : Expr} (a it : Addr) : Turn P w K tg (Itl K a) [it] it (fun i h => h.IsListIter it a i) where
  mem := by simp
  obj := fun i h st b hb => by
    have e : b = it := by simpa using hb
    subst e
    obtain ⟨o, e, c, d⟩ := st
    exact ⟨o, e, fun v z => by rw [d] at z; cases z⟩
  keep := fun i h h' st k => st.at fun o e => k it (by simp) o e
  item := by
    intro X hP hw hK hc i pins s σ H E I hf st hg
    subst hP hw hK
    obtain ⟨xs, x, hq, hx⟩ := hg
    obtain ⟨its, rv, p, hz⟩ := I.list hq
    obtain ⟨u, hu, ru⟩ := rv.get hx
    obtain ⟨f0, f1, f2, f3, f4, f5⟩ := hf it (by simp)
    refine wpAny_pyNext_list_item st p.isList (x := u) (by simpa using hu) fun h' st' sb => ?_
    have I1 : Inv X pins σ H { s with heap := h' } := I.turned (t' := s.toks) (fun b o hb e => (sb.2 b hb).trans e) f0 f1 f3 f4 f5
    obtain ⟨o, e, c, d⟩ := id st'
    exact ⟨u, rfl, go_of (s := { s with heap := h' }) e c d (by decide) ⟨x, H, I1, ru, ⟨rfl, fun ys hy => by rw [I.list_inj hy hq]; exact hx⟩, st', fun b hb => (hf b hb).1⟩⟩
  done := by
    intro X hP hw hK hc i pins s σ H E I hf st hg
    subst hP hw hK
    obtain ⟨xs, hq, hx⟩ := hg
    obtain ⟨its, rv, p, hz⟩ := I.list hq
    obtain ⟨f0, f1, f2, f3, f4, f5⟩ := hf it (by simp)
    have hl := rv.length
    exact wpAny_pyNext_list_end (I.ok.hd hc) st p.isList (by simp; omega) fun h' eb => ⟨rfl, I.turned (t' := s.toks) (fun b o hb e => eb b o hb e) f0 f1 f3 f4 f5⟩
  self := fun _ _ _ _ _ st h => wpAny_pyIter_listiter st h
theorem turn_range {P : Program} {w : World} {K : PySem.W.Frag} {tg : Expr} (it : Addr) (lo : Int) (n : Nat) : Turn P w K tg (Itr lo n) [it] it (fun i h => IsRangeIter h it (lo + (i : Nat) * 1) ((n : Int) - (i : Nat)) 1) where
  mem := by simp
  obj := fun i h st b hb => by
    have e : b = it := by simpa using hb
    subst e
    exact ⟨_, st, fun v z => by
      have z' : Data.fields _ = Data.cell v := z
      cases z'⟩
  keep := fun i h h' st k => k it (by simp) _ st
  item := by
    intro X hP hw hK hc i pins s σ H E I hf st hg
    subst hP hw hK
    obtain ⟨f0, f1, f2, f3, f4, f5⟩ := hf it (by simp)
    have W := Walks.range (prog := X.prog) (w := X.w) (I.ok.hd hc) it lo 1 n
    refine W.item i s _ _ hg st fun v h' tk hv st' kk => ?_
    obtain ⟨t, rfl⟩ := hv
    have I1 : Inv X pins σ H { s with heap := h', toks := tk } := I.turned (fun b o hb e => kk b o (by simpa using hb) e) f0 f1 f3 f4 f5
    refine ⟨_, rfl, go_of (s := { s with heap := h', toks := tk }) (n := "range_iterator") st' rfl rfl (by decide) ⟨.int (lo + i), H, I1, ⟨t, ?_⟩, ⟨rfl, rfl⟩, st', fun b hb => (hf b hb).1⟩⟩
    rw [Int.mul_one]
  done := by
    intro X hP hw hK hc i pins s σ H E I hf st hg
    subst hP hw hK
    obtain ⟨f0, f1, f2, f3, f4, f5⟩ := hf it (by simp)
    exact wpAny_pyNext_range_end (I.ok.hd hc) st (by have : n ≤ i := hg; omega) fun h' eb => ⟨rfl, I.turned (t' := s.toks) (fun b o hb e => eb b o hb e) f0 f1 f3 f4 f5⟩
  self := fun _ _ _ _ _ st h => wpAny_pyIter_rangeiter st h
end L2

namespace L2
open PySem PySem.Spec PyProof.Rows
section
variable {X : Cx} {tg : Expr}
def iList (K : PySem.W.Frag) (tl : TE) : TI := fun σ H R => tl σ H fun x H1 => ∃ a, x = .ref a ∧ (∃ xs, SqL K H1 a xs) ∧ R (Itl K a) H1
theorem pi_list {l : Expr} {tl : TE} (hl : PE X l tl) : PI X tg l (iList X.K tl) := by
  intro pins s σ H R I h
  refine thn (hl pins s σ H _ I h) fun v s1 ⟨x, H1, I1, r1, q1⟩ => ?_
  obtain ⟨a, e, ⟨xs, hq⟩, q⟩ := q1
  subst e
  cases r1
  obtain ⟨its, rv, p, hz⟩ := I1.list hq
  refine wpAny_pyIter_list p.isList ?_
  refine ⟨s1.heap.objs.size, [s1.heap.objs.size], _, _, H1, rfl, I1.kept (t' := s1.toks) fun b o e => Heap.get?_push_of_some _ e, turn_list a _, ⟨_, Heap.get?_push_size _ rfl, rfl, rfl⟩, fun b hb => ?_, q⟩
  have e : b = s1.heap.objs.size := by simpa using hb
  subst e
  exact I1.fpOk (Nat.le_refl _) (I1.hok.fresh (Nat.le_refl _))
theorem range_it {pins : List (Addr × Obj)} {σ : St} {H : Hp} {s : Shared} {R : It → Hp → Prop} {E : Value → Shared → Prop} {lo hi : Int} {t u v : Tok} {tk : Nat} (I : Inv X pins σ H s) (h1 : -(2 ^ 62) ≤ lo) (h2 : lo < 2 ^ 62) (h3 : -(2 ^ 62) ≤ hi) (h4 : hi < 2 ^ 62)
    (q : R (Itr lo (hi - lo).toNat) H) : wpAny (model X.prog X.w) X.A (pyIter (.ref s.heap.objs.size)) (PIE X pins σ tg R) E { s with heap := s.heap.push { cls := .type "range", data := .fields #[.int lo t, .int hi u, .int 1 v] }, toks := tk } := by
  refine wpAny_pyIter_range (IsRange.new ..) (small_one h1 h2 h3 h4) ?_
  have I1 : Inv X pins σ H { s with heap := s.heap.push { cls := .type "range", data := .fields #[.int lo t, .int hi u, .int 1 v] }, toks := tk } := I.kept fun b o e => Heap.get?_push_of_some _ e
  refine ⟨(s.heap.push { cls := .type "range", data := .fields #[.int lo t, .int hi u, .int 1 v] }).objs.size, [(s.heap.push { cls := .type "range", data := .fields #[.int lo t, .int hi u, .int 1 v] }).objs.size], _, _, H, rfl,
    I1.kept (t' := tk) fun b o e => Heap.get?_push_of_some _ e, turn_range _ lo (hi - lo).toNat, ?_, fun b hb => ?_, q⟩
  · have e1 : lo + ((0 : Nat) : Int) * 1 = lo := by simp
    have e2 : (((hi - lo).toNat : Nat) : Int) - ((0 : Nat) : Int) = Builtin.Range.rangeSize lo hi 1 := by rw [rangeSize_one]; split <;> omega
    show IsRangeIter _ _ (lo + ((0 : Nat) : Int) * 1) ((((hi - lo).toNat : Nat) : Int) - ((0 : Nat) : Int)) 1
    rw [e1, e2]
    exact Heap.get?_push_size _ rfl
  · have e : b = (s.heap.push { cls := .type "range", data := .fields #[.int lo t, .int hi u, .int 1 v] }).objs.size := by simpa using hb
    subst e
    exact I1.fpOk (Nat.le_refl _) (I1.hok.fresh (Nat.le_refl _))
def iRng1 (ta : TA) : TI := fun σ H R => ta σ H fun vs H1 => ∃ j : Int, vs = [.int j] ∧ -(2 ^ 62) ≤ j ∧ j < 2 ^ 62 ∧ R (Itr 0 j.toNat) H1
def iRng2 (ta : TA) : TI := fun σ H R => ta σ H fun vs H1 => ∃ i j : Int, vs = [.int i, .int j] ∧ (-(2 ^ 62) ≤ i ∧ i < 2 ^ 62 ∧ -(2 ^ 62) ≤ j ∧ j < 2 ^ 62) ∧ R (Itr i (j - i).toNat) H1
theorem pi_range1 {a : Expr} {ta : TA} {p pos : Pos} (hg : Gl X "range") (hm : X.mg "range" = none) (ha : PA X [a] ta) (hs : starEach [a] X.env = [(false, eval a X.env)] := by rfl) : PI X tg (.Call (.Name "range" p) [a] [] pos) (iRng1 ta) := by
  intro pins s σ H R I h
  refine Call_ (ld_blt I hg hm boot_range (PyProof.Rows.callWith_type1 (thn (ha pos pins s σ H _ I h) fun us s1 ⟨vs, H1, I1, r1, q1⟩ => ?_) hs rfl))
  obtain ⟨j, e, q1, q2, q⟩ := q1
  subst e
  cases r1 with
  | cons r rr =>
    cases rr
    obtain ⟨t, rfl⟩ := r
    exact call_range_1 (range_it I1 (by omega) (by omega) q1 q2 (by simpa using q))
theorem pi_range2 {a b : Expr} {ta : TA} {p pos : Pos} (hg : Gl X "range") (hm : X.mg "range" = none) (ha : PA X [a, b] ta) (hs : starEach [a, b] X.env = [(false, eval a X.env), (false, eval b X.env)] := by rfl) (hs2 : starEach [b] X.env = [(false, eval b X.env)] := by rfl) :
    PI X tg (.Call (.Name "range" p) [a, b] [] pos) (iRng2 ta) := by
  intro pins s σ H R I h
  refine Call_ (ld_blt I hg hm boot_range (PyProof.Rows.callWith_type1 (thn (ha pos pins s σ H _ I h) fun us s1 ⟨vs, H1, I1, r1, q1⟩ => ?_) (by rw [hs, hs2]) (by rw [hs2]; rfl)))
  obtain ⟨i, j, e, ⟨q1, q2, q3, q4⟩, q⟩ := q1
  subst e
  cases r1 with
  | cons r rr =>
    cases rr with
    | cons r' rr =>
      cases rr
      obtain ⟨t, rfl⟩ := r
      obtain ⟨t', rfl⟩ := r'
      exact call_range_2 (range_it I1 q1 q2 q3 q4 q)

/-! ### for -/
def tFor (wi : TI) (g : TG) (tb : TS) : TS := fun D σ H => wi σ H fun J H1 => ∃ W : Nat → Nat → St → Hp → Prop, (∃ m, W 0 m σ H1) ∧ ∀ i m σ H, W i m σ H →
  (J.stop i H ∧ D.nx σ H) ∨ (J.go i H ∧ ∃ N : St → Hp → Prop, (∀ σ' H', N σ' H' → ∃ m', m' < m ∧ W (i + 1) m' σ' H') ∧ ∀ x H', J.yld i H x H' → g x σ H' fun σ2 H2 => tb { D with nx := N, ct := N, bk := D.nx } σ2 H2)
def pinsAt (fp : List Addr) (h : Heap) : List (Addr × Obj) := fp.filterMap fun b => (h.get? b).map fun o => (b, o)
theorem mem_pinsAt {fp : List Addr} {h : Heap} {b : Addr} {o : Obj} (hb : b ∈ fp) (e : h.get? b = some o) : (b, o) ∈ pinsAt fp h := List.mem_filterMap.mpr ⟨b, hb, by rw [e]; rfl⟩
theorem of_pinsAt {fp : List Addr} {h : Heap} {p : Addr × Obj} (hp : p ∈ pinsAt fp h) : p.1 ∈ fp ∧ h.get? p.1 = some p.2 := by
  obtain ⟨b, hb, e⟩ := List.mem_filterMap.mp hp
  cases q : h.get? b with
  | none => rw [q] at e; cases e
  | some o =>
    rw [q] at e
    have e' : (b, o) = p := Option.some.inj e
    subst e'
    exact ⟨hb, q⟩
theorem Inv.pinned {pins : List (Addr × Obj)} {σ : St} {H : Hp} {s : Shared} {fp : List Addr} (I : Inv X pins σ H s) (hf : ∀ b ∈ fp, FpOk X pins H b) (ho : ∀ b ∈ fp, ∃ o, s.heap.get? b = some o ∧ ∀ v, o.data ≠ .cell v) : Inv X (pins ++ pinsAt fp s.heap) σ H s :=
  I.pins_of fun p hp => (List.mem_append.mp hp).elim (fun z => I.pin p (List.mem_append_right _ z)) fun z => by
    obtain ⟨hb, e⟩ := of_pinsAt z
    obtain ⟨f0, f1, f2, _⟩ := hf p.1 hb
    obtain ⟨o, e', d⟩ := ho p.1 hb
    rw [e] at e'; cases e'
    exact ⟨e, f0, f1, f2, d⟩
theorem Inv.unpinned {pins pl : List (Addr × Obj)} {σ : St} {H : Hp} {s : Shared} (I : Inv X (pins ++ pl) σ H s) : Inv X pins σ H s := I.pins_of fun p hp => I.pin p (List.mem_append_right _ (List.mem_append_left _ hp))
theorem ps_for {iter : Expr} {body : List Stmt} {wi : TI} {g : TG} {tb : TS} {pos : Pos} (hp : PassesOwn (model X.prog X.w) X.A X.env X.xe) (hc : X.calm = true) (hi : PI X tg iter wi) (hg : PG X tg g) (hb : PSs X body tb)
    (hs : ∀ x, foldedSetIterable iter X.env x = pure x := by intro _; rfl) : PS X (.For tg iter body [] pos) (tFor wi g tb) := by
  intro pins s σ H D I h
  refine wpAny_For (thn (hi pins s σ H _ I h) fun v s1 h1 => thn h1 fun itv s2 h2 => ?_) hs
  obtain ⟨it, fp, tn, J, H2, e, I2, T, st2, f2, W, ⟨m0, w0⟩, turn⟩ := h2
  subst e
  -- what stays true of the iterator's objects through the loop
  have stat : ∀ {H' : Hp}, (∀ b ∈ fp, H' b = none) → ∀ b ∈ fp, FpOk X pins H' b := fun hn b hb => ⟨hn b hb, (f2 b hb).2⟩
  refine codeAny_forLoop_any (fun n s' => ∃ i σ' H', Inv X pins σ' H' s' ∧ tn i s'.heap ∧ (∀ b ∈ fp, H' b = none) ∧ W i n σ' H') ?_ m0 ⟨0, σ, H2, I2, st2, fun b hb => (f2 b hb).1, w0⟩
  rintro n s3 ⟨i, σ3, H3, I3, st3, fr3, w3⟩
  rcases turn i n σ3 H3 w3 with ⟨stop, qn⟩ | ⟨go, N, hN, step⟩
  · refine wpAny_passesOwn hp (thn (T.done X rfl rfl rfl hc i pins s3 σ3 H3 X.xe I3 (stat fr3) st3 stop) fun r s4 ⟨hr, I4⟩ => ?_)
    subst hr
    exact wpAny_execs_nil ⟨σ3, H3, I4, qn⟩
  · refine wpAny_passesOwn hp (thn (T.item X rfl rfl rfl hc i pins s3 σ3 H3 X.xe I3 (stat fr3) st3 go) fun r s4 ⟨u, hr, h4⟩ => ?_)
    subst hr
    refine wpAny_passesOwn hp (thn h4 fun _ s5 ⟨x, H5, I5, r5, y5, st5, fr5⟩ => ?_)
    have I5' := I5.pinned (stat fr5) (T.obj _ _ st5)
    refine wpAny_passesOwn hp (thn (hg _ s5 σ3 H5 x u _ I5' r5 (step x H5 y5)) fun _ s6 ⟨σ6, H6, I6, q6⟩ => ?_)
    refine wpAny_passesOwn hp (thn (hb _ s6 σ6 H6 _ I6 q6) fun f s7 q7 => ?_)
    have again : ∀ {σ7 : St} {H7 : Hp}, Inv X (pins ++ pinsAt fp s5.heap) σ7 H7 s7 → N σ7 H7 → ∃ m, m < n ∧ ∃ i σ' H', Inv X pins σ' H' s7 ∧ tn i s7.heap ∧ (∀ b ∈ fp, H' b = none) ∧ W i m σ' H' := fun {σ7 H7} I7 n7 => by
      obtain ⟨m', hm, w7⟩ := hN σ7 H7 n7
      refine ⟨m', hm, i + 1, σ7, H7, I7.unpinned, T.keep _ _ _ st5 fun b hb o e => (I7.pin (b, o) (List.mem_append_right _ (List.mem_append_right _ (mem_pinsAt hb e)))).1, fun b hb => ?_, w7⟩
      obtain ⟨o, e, d⟩ := T.obj _ _ st5 b hb
      exact (I7.pin (b, o) (List.mem_append_right _ (List.mem_append_right _ (mem_pinsAt hb e)))).2.1
    cases f with
    | next => obtain ⟨σ7, H7, I7, n7⟩ := q7; exact again I7 n7
    | cont => obtain ⟨σ7, H7, I7, n7⟩ := q7; exact again I7 n7
    | brk => obtain ⟨σ7, H7, I7, q7⟩ := q7; exact ⟨σ7, H7, I7.unpinned, q7⟩
    | ret v => obtain ⟨x7, σ7, H7, I7, r7, q7⟩ := q7; exact ⟨x7, σ7, H7, I7.unpinned, r7, q7⟩
end

/-! ### the forms one uses -/
theorem for_list {K : PySem.W.Frag} {a : Addr} {xs : List V} {g : TG} {tb : TS} {D : Ends} {σ : St} {H : Hp} (Pv : Nat → St → Hp → Prop) (h0 : Pv 0 σ H) (hl : ∀ i σ H, i ≤ xs.length → Pv i σ H → SqL K H a xs)
    (hs : ∀ i x σ H, xs[i]? = some x → Pv i σ H → g x σ H fun σ2 H2 => tb { D with nx := Pv (i + 1), ct := Pv (i + 1), bk := D.nx } σ2 H2) (hd : ∀ σ H, Pv xs.length σ H → D.nx σ H) :
    ∃ W : Nat → Nat → St → Hp → Prop, (∃ m, W 0 m σ H) ∧ ∀ i m σ H, W i m σ H →
      ((Itl K a).stop i H ∧ D.nx σ H) ∨ ((Itl K a).go i H ∧ ∃ N : St → Hp → Prop, (∀ σ' H', N σ' H' → ∃ m', m' < m ∧ W (i + 1) m' σ' H') ∧ ∀ x H', (Itl K a).yld i H x H' → g x σ H' fun σ2 H2 => tb { D with nx := N, ct := N, bk := D.nx } σ2 H2) := by
  refine ⟨fun i m σ H => m = xs.length - i ∧ i ≤ xs.length ∧ Pv i σ H, ⟨xs.length, by simp, Nat.zero_le _, h0⟩, ?_⟩
  rintro i m σ H ⟨rfl, hi, p⟩
  have q := hl i σ H hi p
  by_cases hlt : i < xs.length
  · refine .inr ⟨⟨xs, xs[i], q, by simp [hlt]⟩, Pv (i + 1), fun σ' H' p' => ⟨xs.length - (i + 1), by omega, rfl, hlt, p'⟩, fun x H' y => ?_⟩
    obtain ⟨e, y⟩ := y
    subst e
    exact hs i x σ _ (y xs q) p
  · have e : i = xs.length := by omega
    subst e
    exact .inl ⟨⟨xs, q, Nat.le_refl _⟩, hd σ H p⟩
theorem for_range {lo : Int} {n : Nat} {g : TG} {tb : TS} {D : Ends} {σ : St} {H : Hp} (Pv : Nat → St → Hp → Prop) (h0 : Pv 0 σ H)
    (hs : ∀ i σ H, i < n → Pv i σ H → g (.int (lo + i)) σ H fun σ2 H2 => tb { D with nx := Pv (i + 1), ct := Pv (i + 1), bk := D.nx } σ2 H2) (hd : ∀ σ H, Pv n σ H → D.nx σ H) :
    ∃ W : Nat → Nat → St → Hp → Prop, (∃ m, W 0 m σ H) ∧ ∀ i m σ H, W i m σ H →
      ((Itr lo n).stop i H ∧ D.nx σ H) ∨ ((Itr lo n).go i H ∧ ∃ N : St → Hp → Prop, (∀ σ' H', N σ' H' → ∃ m', m' < m ∧ W (i + 1) m' σ' H') ∧ ∀ x H', (Itr lo n).yld i H x H' → g x σ H' fun σ2 H2 => tb { D with nx := N, ct := N, bk := D.nx } σ2 H2) := by
  refine ⟨fun i m σ H => m = n - i ∧ i ≤ n ∧ Pv i σ H, ⟨n, by simp, Nat.zero_le _, h0⟩, ?_⟩
  rintro i m σ H ⟨rfl, hi, p⟩
  by_cases hlt : i < n
  · refine .inr ⟨hlt, Pv (i + 1), fun σ' H' p' => ⟨n - (i + 1), by omega, rfl, hlt, p'⟩, fun x H' y => ?_⟩
    obtain ⟨e, y⟩ := y
    subst e y
    exact hs i σ _ hlt p
  · have e : i = n := by omega
    subst e
    exact .inl ⟨Nat.le_refl _, hd σ H p⟩
end L2

namespace L2
open PySem PySem.Spec PyProof.Rows

abbrev R2 := V → V → Hp → VK → Prop
def OpR (X : Cx) (f : Value → Value → Sem Value) (r : R2) : Prop :=
  ∀ (pins : List (Addr × Obj)) (s : Shared) (σ : St) (H : Hp) (x y : V) (v u : Value) (Q : VK), Inv X pins σ H s → RelV x v → RelV y u → r x y H Q →
    wpAny (model X.prog X.w) X.A (f v u) (EP X pins σ Q) X.xe s
def UnR (X : Cx) (f : Value → Sem Value) (r : V → Hp → VK → Prop) : Prop :=
  ∀ (pins : List (Addr × Obj)) (s : Shared) (σ : St) (H : Hp) (x : V) (v : Value) (Q : VK), Inv X pins σ H s → RelV x v → r x H Q →
    wpAny (model X.prog X.w) X.A (f v) (EP X pins σ Q) X.xe s
def CallR (X : Cx) (f : Value) (r : List V → Hp → VK → Prop) : Prop :=
  ∀ (pins : List (Addr × Obj)) (s : Shared) (σ : St) (H : Hp) (xs : List V) (us : List Value) (Q : VK), Inv X pins σ H s → Vals xs us → r xs H Q →
    wpAny (model X.prog X.w) X.A (call f us) (EP X pins σ Q) X.xe s
def tOp (r : R2) (ta tb : TE) : TE := fun σ H Q => ta σ H fun x H1 => tb σ H1 fun y H2 => r x y H2 Q
def tUn (r : V → Hp → VK → Prop) (ta : TE) : TE := fun σ H Q => ta σ H fun x H1 => r x H1 Q
def rI (C : Int → Int → Prop) (g : Int → Int → V) : R2 := fun x y H Q => ∃ i j, x = .int i ∧ y = .int j ∧ C i j ∧ Q (g i j) H
def rI0 (g : Int → Int → V) : R2 := fun x y H Q => ∃ i j, x = .int i ∧ y = .int j ∧ Q (g i j) H
def rU (g : Int → V) : V → Hp → VK → Prop := fun x H Q => ∃ i, x = .int i ∧ Q (g i) H

section
variable {X : Cx} {a b c : Expr} {ta tb tc : TE} {pos : Pos}

theorem binT (ha : PE X a ta) (hb : PE X b tb) {pins : List (Addr × Obj)} {s : Shared} {σ : St} {H : Hp} {R : V → V → Hp → Prop} (I : Inv X pins σ H s)
    (h : ta σ H fun x H1 => tb σ H1 fun y H2 => R x y H2) {Q : Value → Shared → Prop} {f : Value → Value → Sem Value}
    (hf : ∀ v u s2 x y H2, Inv X pins σ H2 s2 → RelV x v → RelV y u → R x y H2 → wpAny (model X.prog X.w) X.A (f v u) Q X.xe s2) :
    wpAny (model X.prog X.w) X.A (eval a X.env) (fun v s₁ => wpAny (model X.prog X.w) X.A (eval b X.env) (fun u s₂ => wpAny (model X.prog X.w) X.A (f v u) Q X.xe s₂) X.xe s₁) X.xe s := by
  refine thn (ha pins s σ H _ I h) fun v s1 ⟨x, H1, I1, r1, q1⟩ => ?_
  refine thn (hb pins s1 σ H1 _ I1 q1) fun u s2 ⟨y, H2, I2, r2, q2⟩ => ?_
  exact hf v u s2 x y H2 I2 r1 r2 q2

theorem pe_op {op : Operator} {r : R2} (ho : OpR X (binaryOp op) r) (ha : PE X a ta) (hb : PE X b tb) : PE X (.BinOp a op b pos) (tOp r ta tb) := by
  intro pins s σ H Q I h
  exact wpAny_BinOp (binT ha hb I h fun v u s2 x y H2 I2 rx ry q => ho pins s2 σ H2 x y v u Q I2 rx ry q)
theorem pe_un {op : UnaryOp} {r : V → Hp → VK → Prop} (ho : UnR X (unaryOp op) r) (ha : PE X a ta) : PE X (.UnaryOp op a pos) (tUn r ta) := by
  intro pins s σ H Q I h
  exact UnaryOp_ (thn (ha pins s σ H _ I h) fun v s1 ⟨x, H1, I1, r1, q1⟩ => ho pins s1 σ H1 x v Q I1 r1 q1)
/-! ### ints -/
theorem opI {f : Value → Value → Sem Value} {C : Int → Int → Prop} {g : Int → Int → Int}
    (rule : ∀ (i j : Int) (t u : Tok) (s : Shared) (Q : Value → Shared → Prop) (E : Value → Shared → Prop), C i j → Q (.int (g i j) s.toks) { s with toks := s.toks + 1 } → wpAny (model X.prog X.w) X.A (f (.int i t) (.int j u)) Q E s) :
    OpR X f (rI C fun i j => .int (g i j)) := by
  intro pins s σ H x y v u Q I rx ry h
  obtain ⟨i, j, rfl, rfl, hc, q⟩ := h
  obtain ⟨t, rfl⟩ := rx
  obtain ⟨t', rfl⟩ := ry
  exact rule i j t t' s _ _ hc ⟨.int (g i j), H, I.tok _, ⟨_, rfl⟩, q⟩
theorem opI0 {f : Value → Value → Sem Value} {g : Int → Int → Int}
    (rule : ∀ (i j : Int) (t u : Tok) (s : Shared) (Q : Value → Shared → Prop) (E : Value → Shared → Prop), Q (.int (g i j) s.toks) { s with toks := s.toks + 1 } → wpAny (model X.prog X.w) X.A (f (.int i t) (.int j u)) Q E s) :
    OpR X f (rI0 fun i j => .int (g i j)) := by
  intro pins s σ H x y v u Q I rx ry h
  obtain ⟨i, j, rfl, rfl, q⟩ := h
  obtain ⟨t, rfl⟩ := rx
  obtain ⟨t', rfl⟩ := ry
  exact rule i j t t' s _ _ ⟨.int (g i j), H, I.tok _, ⟨_, rfl⟩, q⟩
theorem opB0 {f : Value → Value → Sem Value} {g : Int → Int → Bool}
    (rule : ∀ (i j : Int) (t u : Tok) (s : Shared) (Q : Value → Shared → Prop) (E : Value → Shared → Prop), Q (.bool (g i j)) s → wpAny (model X.prog X.w) X.A (f (.int i t) (.int j u)) Q E s) :
    OpR X f (rI0 fun i j => .bl (g i j)) := by
  intro pins s σ H x y v u Q I rx ry h
  obtain ⟨i, j, rfl, rfl, q⟩ := h
  obtain ⟨t, rfl⟩ := rx
  obtain ⟨t', rfl⟩ := ry
  exact rule i j t t' s _ _ ⟨.bl (g i j), H, I, rfl, q⟩

def CDiv (i j : Int) : Prop := 0 < j ∧ j < 1073741824
def CMul (i j : Int) : Prop := (-(2 ^ 64) < i ∧ i < 2 ^ 64) ∨ (-(2 ^ 64) < j ∧ j < 2 ^ 64)
theorem CMul.ok {i j : Int} (h : CMul i j) : IntMulOk i j := by
  rcases h with ⟨h1, h2⟩ | ⟨h1, h2⟩
  · exact .of_left (intBits_le_64 h1 h2)
  · exact .of_right (intBits_le_64 h1 h2)
theorem op_add : OpR X (binaryOp .Add) (rI0 fun i j => .int (i + j)) := opI0 fun _ _ _ _ _ _ _ q => add_int q
theorem op_sub : OpR X (binaryOp .Sub) (rI0 fun i j => .int (i - j)) := opI0 fun _ _ _ _ _ _ _ q => sub_int q
theorem op_mul : OpR X (binaryOp .Mult) (rI CMul fun i j => .int (i * j)) := opI fun _ _ _ _ _ _ _ hc q => mul_int q hc.ok
theorem op_fdiv : OpR X (binaryOp .FloorDiv) (rI CDiv fun i j => .int (i / j)) := opI fun i j _ _ _ _ _ hc q => by
  have h1 : (0 : Int) < j := hc.1
  have h2 : j < 1073741824 := hc.2
  exact floordiv_int (by omega) (by rw [Int.fdiv_eq_ediv_of_nonneg i (by omega)]; exact q) (.inl (PyProof.noPylong_small (by omega)))
theorem op_mod : OpR X (binaryOp .Mod) (rI (fun _ j => 0 < j) fun i j => .int (i % j)) := opI fun i j _ _ _ _ _ hc q => by
  have h1 : (0 : Int) < j := hc
  exact mod_int' (by omega) (by rw [Int.fmod_eq_emod_of_nonneg i (by omega)]; exact q)
theorem unI {f : Value → Sem Value} {g : Int → Int}
    (rule : ∀ (i : Int) (t : Tok) (s : Shared) (Q : Value → Shared → Prop) (E : Value → Shared → Prop), Q (.int (g i) s.toks) { s with toks := s.toks + 1 } → wpAny (model X.prog X.w) X.A (f (.int i t)) Q E s) :
    UnR X f (rU fun i => .int (g i)) := by
  intro pins s σ H x v Q I rx h
  obtain ⟨i, rfl, q⟩ := h
  obtain ⟨t, rfl⟩ := rx
  exact rule i t s _ _ ⟨.int (g i), H, I.tok _, ⟨_, rfl⟩, q⟩
theorem un_neg : UnR X (unaryOp .USub) (rU fun i => .int (-i)) := unI fun _ _ _ _ _ q => neg_int q
/-! ### bools among ints: n += (a < b) -/
end

/-! ### comparisons -/
def scal : V → V → Bool
  | .non, .non => true | .non, .int _ => true | .int _, .non => true | .non, .bl _ => true | .bl _, .non => true | .non, .str _ => true | .str _, .non => true
  | .int _, .int _ => true | .bl _, .bl _ => true | .str _, .str _ => true | .byt _, .byt _ => true
  | .int _, .str _ => true | .str _, .int _ => true | .bl _, .str _ => true | .str _, .bl _ => true
  | _, _ => false
def rEq : R2 := fun x y H Q => scal x y = true ∧ Q (.bl (decide (x = y))) H
def rNe : R2 := fun x y H Q => scal x y = true ∧ Q (.bl (!decide (x = y))) H

theorem dec_int {i j : Int} : decide (V.int i = V.int j) = (i == j) := by
  rw [Bool.eq_iff_iff]
  simp
theorem dec_bl {i j : Bool} : decide (V.bl i = V.bl j) = (i == j) := by
  rw [Bool.eq_iff_iff]
  simp
theorem dec_str {i j : Str} : decide (V.str i = V.str j) = (i == j) := by
  rw [Bool.eq_iff_iff]
  simp
theorem dec_byt {i j : Array UInt8} : decide (V.byt i = V.byt j) = (i.toList == j.toList) := by
  rw [Bool.eq_iff_iff]
  cases i
  cases j
  simp

section
variable {X : Cx} {a b c : Expr} {ta tb tc : TE} {pos : Pos}
theorem fin_bl {pins : List (Addr × Obj)} {σ : St} {H : Hp} {s : Shared} {Q : VK} {k k' : Bool} (I : Inv X pins σ H s) (q : Q (.bl k) H) (e : k = k') : EP X pins σ Q (.bool k') s := by
  subst e
  exact ⟨.bl k, H, I, rfl, q⟩
theorem op_eq : OpR X (compareOp .Eq) rEq := by
  intro pins s σ H x y v u Q I rx ry h
  obtain ⟨hs, q⟩ := h
  cases x with
  | non =>
    cases rx
    cases y with
    | non => cases ry; exact PySem.EqNone.eq_none_none (fin_bl I q (by simp))
    | bl j => cases ry; exact PySem.EqNone.eq_none_bool (fin_bl I q (by simp))
    | int j => obtain ⟨t', rfl⟩ := ry; exact PySem.EqNone.eq_none_int (fin_bl I q (by simp))
    | str j => obtain ⟨t', rfl⟩ := ry; exact PySem.EqNone.eq_none_str (fin_bl I q (by simp))
    | _ => exact absurd (show false = true from hs) Bool.false_ne_true
  | bl i =>
    cases rx
    cases y with
    | non => cases ry; exact PySem.EqNone.eq_bool_none (fin_bl I q (by simp))
    | bl j => cases ry; exact eq_bool (fin_bl I q dec_bl)
    | str j => obtain ⟨t', rfl⟩ := ry; exact PySem.EqMixed.eq_bool_str (fin_bl I q (by simp))
    | _ => exact absurd (show false = true from hs) Bool.false_ne_true
  | int i =>
    obtain ⟨t, rfl⟩ := rx
    cases y with
    | non => cases ry; exact PySem.EqNone.eq_int_none (fin_bl I q (by simp))
    | int j => obtain ⟨t', rfl⟩ := ry; exact eq_int (fin_bl I q dec_int)
    | str j => obtain ⟨t', rfl⟩ := ry; exact PySem.EqMixed.eq_int_str (fin_bl I q (by simp))
    | _ => exact absurd (show false = true from hs) Bool.false_ne_true
  | str i =>
    obtain ⟨t, rfl⟩ := rx
    cases y with
    | non => cases ry; exact PySem.EqNone.eq_str_none (fin_bl I q (by simp))
    | bl j => cases ry; exact PySem.EqMixed.eq_str_bool (fin_bl I q (by simp))
    | int j => obtain ⟨t', rfl⟩ := ry; exact PySem.EqMixed.eq_str_int (fin_bl I q (by simp))
    | str j => obtain ⟨t', rfl⟩ := ry; exact eq_str (fin_bl I q dec_str)
    | _ => exact absurd (show false = true from hs) Bool.false_ne_true
  | byt i =>
    obtain ⟨t, rfl⟩ := rx
    cases y with
    | byt j => obtain ⟨t', rfl⟩ := ry; exact PySem.W.eq_bytes (fin_bl I q dec_byt)
    | _ => exact absurd (show false = true from hs) Bool.false_ne_true
  | _ => cases y <;> exact absurd (show false = true from hs) Bool.false_ne_true
theorem op_ne : OpR X (compareOp .NotEq) rNe := by
  intro pins s σ H x y v u Q I rx ry h
  obtain ⟨hs, q⟩ := h
  cases x with
  | non =>
    cases rx
    cases y with
    | non => cases ry; exact PySem.EqNone.ne_none_none (fin_bl I q (by simp))
    | bl j => cases ry; exact PySem.EqNone.ne_none_bool (fin_bl I q (by simp))
    | int j => obtain ⟨t', rfl⟩ := ry; exact PySem.EqNone.ne_none_int (fin_bl I q (by simp))
    | str j => obtain ⟨t', rfl⟩ := ry; exact PySem.EqNone.ne_none_str (fin_bl I q (by simp))
    | _ => exact absurd (show false = true from hs) Bool.false_ne_true
  | bl i =>
    cases rx
    cases y with
    | non => cases ry; exact PySem.EqNone.ne_bool_none (fin_bl I q (by simp))
    | bl j => cases ry; exact ne_bool (fin_bl I q (congrArg not dec_bl))
    | str j => obtain ⟨t', rfl⟩ := ry; exact PySem.EqMixed.ne_bool_str (fin_bl I q (by simp))
    | _ => exact absurd (show false = true from hs) Bool.false_ne_true
  | int i =>
    obtain ⟨t, rfl⟩ := rx
    cases y with
    | non => cases ry; exact PySem.EqNone.ne_int_none (fin_bl I q (by simp))
    | int j => obtain ⟨t', rfl⟩ := ry; exact ne_int (fin_bl I q (congrArg not dec_int))
    | str j => obtain ⟨t', rfl⟩ := ry; exact PySem.EqMixed.ne_int_str (fin_bl I q (by simp))
    | _ => exact absurd (show false = true from hs) Bool.false_ne_true
  | str i =>
    obtain ⟨t, rfl⟩ := rx
    cases y with
    | non => cases ry; exact PySem.EqNone.ne_str_none (fin_bl I q (by simp))
    | bl j => cases ry; exact PySem.EqMixed.ne_str_bool (fin_bl I q (by simp))
    | int j => obtain ⟨t', rfl⟩ := ry; exact PySem.EqMixed.ne_str_int (fin_bl I q (by simp))
    | str j => obtain ⟨t', rfl⟩ := ry; exact ne_str (fin_bl I q (congrArg not dec_str))
    | _ => exact absurd (show false = true from hs) Bool.false_ne_true
  | byt i =>
    obtain ⟨t, rfl⟩ := rx
    cases y with
    | byt j => obtain ⟨t', rfl⟩ := ry; exact PySem.W.ne_bytes (fin_bl I q (congrArg not dec_byt))
    | _ => exact absurd (show false = true from hs) Bool.false_ne_true
  | _ => cases y <;> exact absurd (show false = true from hs) Bool.false_ne_true

theorem op_lt : OpR X (compareOp .Lt) (rI0 fun i j => .bl (decide (i < j))) := opB0 fun _ _ _ _ _ _ _ q => lt_int q
theorem op_le : OpR X (compareOp .LtE) (rI0 fun i j => .bl (decide (i ≤ j))) := opB0 fun _ _ _ _ _ _ _ q => le_int q
theorem op_gt : OpR X (compareOp .Gt) (rI0 fun i j => .bl (decide (j < i))) := opB0 fun _ _ _ _ _ _ _ q => gt_int q
theorem op_isN : OpR X (compareOp .Is) (fun x y H Q => y = .non ∧ Q (.bl (decide (x = .non))) H) := by
  intro pins s σ H x y v u Q I rx ry h
  obtain ⟨rfl, q⟩ := h
  cases ry
  refine is_none_gen (fin_bl I q ?_)
  cases x <;> first
    | (cases rx; rfl)
    | (obtain ⟨t, rfl⟩ := rx; rfl)
theorem op_notN : OpR X (compareOp .IsNot) (fun x y H Q => y = .non ∧ Q (.bl (!decide (x = .non))) H) := by
  intro pins s σ H x y v u Q I rx ry h
  obtain ⟨rfl, q⟩ := h
  cases ry
  refine isnot_none_gen (fin_bl I q ?_)
  cases x <;> first
    | (cases rx; rfl)
    | (obtain ⟨t, rfl⟩ := rx; rfl)

theorem nomark (b : Expr) {op : CmpOp} (h : op ≠ .In := by decide) (h2 : op ≠ .NotIn := by decide) : behindInMarks op b = false := by
  have e1 : (op == CmpOp.In) = false := by cases op <;> first | rfl | exact absurd rfl h
  have e2 : (op == CmpOp.NotIn) = false := by cases op <;> first | rfl | exact absurd rfl h2
  cases b <;> simp [behindInMarks, e1, e2]
theorem pe_cmpR {op : CmpOp} {r : R2} (ho : OpR X (compareOp op) r) (ha : PE X a ta) (hb : PE X b tb) (hm : behindInMarks op b = false) : PE X (.Compare a [op] [b] pos) (tOp r ta tb) := by
  intro pins s σ H Q I h
  exact wpAny_Compare1 (binT ha hb I h fun v u s2 x y H2 I2 rx ry q => ho pins s2 σ H2 x y v u Q I2 rx ry q) hm
def tTest (t : TE) : TT := fun σ H Q => t σ H fun x H' => ∃ k, x = .bl k ∧ Q k H'
theorem pt_cmpR {op : CmpOp} {r : R2} (ho : OpR X (compareOp op) r) (ha : PE X a ta) (hb : PE X b tb) (hm : behindInMarks op b = false) : PT X (.Compare a [op] [b] pos) (tTest (tOp r ta tb)) := by
  intro pins s σ H Q I h
  refine wpAny_isTrue_Compare1 (thn (ha pins s σ H _ I h) fun v s1 ⟨x, H1, I1, r1, q1⟩ => thn (hb pins s1 σ H1 _ I1 q1) fun u s2 ⟨y, H2, I2, r2, q2⟩ =>
    thn (ho pins s2 σ H2 x y v u _ I2 r1 r2 q2) fun c s3 ⟨z, H3, I3, r3, k, e, q3⟩ => ?_) hm
  subst e
  cases r3
  exact wpAny_truthy_bool ⟨H3, I3, q3⟩
def tChain (r r' : R2) (ta tb tc : TE) : TE := fun σ H Q => ta σ H fun x H1 => tb σ H1 fun y H2 => r x y H2 fun z H3 => ∃ k, z = .bl k ∧
  (if k = true then tc σ H3 fun w' H4 => r' y w' H4 Q else Q (.bl false) H3)
theorem pt_chain {op op' : CmpOp} {r r' : R2} (ho : OpR X (compareOp op) r) (ho' : OpR X (compareOp op') r') (ha : PE X a ta) (hb : PE X b tb) (hc : PE X c tc)
    (hm : lastMarks [op, op'] [b, c] = false := by with_unfolding_all rfl) : PT X (.Compare a [op, op'] [b, c] pos) (tTest (tChain r r' ta tb tc)) := by
  intro pins s σ H Q I h
  refine isTrue_chain (thn (ha pins s σ H _ I h) fun v s1 ⟨x, H1, I1, r1, q1⟩ => test_link (thn (hb pins s1 σ H1 _ I1 q1) fun u s2 ⟨y, H2, I2, r2, q2⟩ =>
    thn (ho pins s2 σ H2 x y v u _ I2 r1 r2 q2) fun d s3 ⟨z, H3, I3, r3, k, e, q3⟩ => ?_)) hm
  subst e
  cases r3
  refine wpAny_truthy_bool ?_
  cases k with
  | false =>
    obtain ⟨k', e', q'⟩ := q3
    cases e'
    exact ite_ff ⟨H3, I3, q'⟩
  | true =>
    refine ite_tt (test_last (thn (hc pins s3 σ H3 _ I3 q3) fun w' s4 ⟨z', H4, I4, r4, q4⟩ => thn (ho' pins s4 σ H4 y z' u w' _ I4 r2 r4 q4) fun d' s5 ⟨z2, H5, I5, r5, k2, e2, q5⟩ => ?_))
    subst e2
    cases r5
    exact wpAny_truthy_bool ⟨H5, I5, q5⟩

/-! ### truth -/
theorem line63 : (sizeLine : Nat) < 2 ^ 63 := by rw [sizeLine_eq]; decide
/-! ### strs and bytes -/
theorem op_add_str : OpR X (binaryOp .Add) (fun x y H Q => ∃ i j, x = .str i ∧ y = .str j ∧ i.length + j.length ≤ sizeLine ∧ Q (.str (i ++ j)) H) := by
  intro pins s σ H x y v u Q I rx ry h
  obtain ⟨i, j, rfl, rfl, hz, q⟩ := h
  obtain ⟨t, rfl⟩ := rx
  obtain ⟨t', rfl⟩ := ry
  exact add_str (fun t' tk => ⟨.str (i ++ j), H, I.tok _, ⟨_, rfl⟩, q⟩) hz
/-! ### scalar builtins, by CallR -/
theorem vals1 {x : V} {us : List Value} (r : Vals [x] us) : ∃ u, us = [u] ∧ RelV x u := by
  cases r with
  | cons r1 r2 => cases r2; exact ⟨_, rfl, r1⟩
theorem vals2 {x y : V} {us : List Value} (r : Vals [x, y] us) : ∃ u w', us = [u, w'] ∧ RelV x u ∧ RelV y w' := by
  cases r with
  | cons r1 r2 =>
    cases r2 with
    | cons r3 r4 => cases r4; exact ⟨_, _, rfl, r1, r3⟩
theorem call_max2 (hc : X.calm = true) : CallR X (.builtin "max") (fun xs H Q => ∃ i j, xs = [.int i, .int j] ∧ Q (.int (if j > i then j else i)) H) := by
  intro pins s σ H xs us Q I r h
  obtain ⟨i, j, rfl, q⟩ := h
  obtain ⟨u, w', rfl, ⟨t, rfl⟩, ⟨t', rfl⟩⟩ := vals2 r
  refine max_two_ints (I.ok.hd hc) fun h' tk k => ⟨_, H, I.kept k, ?_, q⟩
  by_cases hj : j > i
  · rw [if_pos hj, if_pos hj]; exact ⟨_, rfl⟩
  · rw [if_neg hj, if_neg hj]; exact ⟨_, rfl⟩
theorem call_min2 (hc : X.calm = true) : CallR X (.builtin "min") (fun xs H Q => ∃ i j, xs = [.int i, .int j] ∧ Q (.int (if j < i then j else i)) H) := by
  intro pins s σ H xs us Q I r h
  obtain ⟨i, j, rfl, q⟩ := h
  obtain ⟨u, w', rfl, ⟨t, rfl⟩, ⟨t', rfl⟩⟩ := vals2 r
  refine min_two_ints (I.ok.hd hc) fun h' tk k => ⟨_, H, I.kept k, ?_, q⟩
  by_cases hj : j < i
  · rw [if_pos hj, if_pos hj]; exact ⟨_, rfl⟩
  · rw [if_neg hj, if_neg hj]; exact ⟨_, rfl⟩
theorem call_int1 : CallR X (.type "int") (fun xs H Q => (∃ i, xs = [.int i] ∧ Q (.int i) H) ∨ ∃ k, xs = [.bl k] ∧ Q (.int (if k then 1 else 0)) H) := by
  intro pins s σ H xs us Q I r h
  rcases h with ⟨i, rfl, q⟩ | ⟨k, rfl, q⟩
  · obtain ⟨u, rfl, t, rfl⟩ := vals1 r
    exact call_int_int ⟨.int i, H, I, ⟨_, rfl⟩, q⟩
  · obtain ⟨u, rfl, r1⟩ := vals1 r
    cases r1
    exact call_int_bool ⟨.int (if k then 1 else 0), H, I.tok _, ⟨_, rfl⟩, q⟩
end
end L2

namespace L2
open PySem PySem.Spec PyProof.Rows

/-! ### an instance, its attributes a map -/
structure ObjM (h : Heap) (x dx C : Addr) (mA : Str → Option Value) : Prop where
  obj : h.get? x = some (PySem.W.instObj C dx)
  ns : h.Ns1 dx mA
  ne : dx ≠ x

theorem lookIn_ns {h : Heap} {dx : Addr} {mA : Str → Option Value} (n : h.Ns1 dx mA) : ∃ od, h.get? dx = some od ∧ ∀ name, PySem.W.lookIn name od = some (mA name) := by
  obtain ⟨o, es, ep, ho, hd, hk, _, hm⟩ := n
  refine ⟨o, ho, fun name => ?_⟩
  have e := hm name
  unfold nsFind findBy at e
  rw [← Array.find?_toList] at e
  unfold PySem.W.lookIn
  rw [hd]
  dsimp only
  split
  · rename_i y q
    rw [q] at e
    exact congrArg some e
  · rename_i q
    rw [q] at e
    have a : es.toList.any (·.refKey) = false := by
      rw [List.any_eq_false]
      intro y hy
      obtain ⟨z, t, hkey⟩ := hk y (Array.mem_toList_iff.mp hy)
      simp [DictEntry.refKey, hkey]
    have a' : ¬ es.toList.any (·.refKey) = true := by rw [a]; exact Bool.false_ne_true
    rw [if_neg a']
    exact congrArg some e

theorem ObjM.look {h : Heap} {x dx C : Addr} {mA : Str → Option Value} (I : ObjM h x dx C mA) : ∃ od, PySem.W.InstAt h x (PySem.W.instObj C dx) C (some od) ∧ ∀ name, PySem.W.lookIn name od = some (mA name) :=
  let ⟨od, ho, hl⟩ := lookIn_ns I.ns
  ⟨od, ⟨I.obj, rfl, rfl, ho⟩, hl⟩

section
variable {prog : Program} {w : World} {A : Around} {E : Value → Shared → Prop} {s : Shared} {K : PySem.W.Frag} {x dx C f : Addr} {mA : Str → Option Value} {name : Str} {v : Value}

end

/-! ### the attributes as a list of pairs -/
def putF (f : Str) (v : V) : List (Str × V) → List (Str × V)
  | [] => [(f, v)]
  | (g, x) :: r => if g = f then (g, v) :: r else (g, x) :: putF f v r
theorem RelO.some_of {v : V} {o : Option Value} (r : RelO (some v) o) : ∃ u, o = some u ∧ RelV v u := by
  cases o with
  | none => exact (show False from r).elim
  | some u => exact ⟨u, rfl, r⟩
section
variable {P : Program} {w : World} {H H' : Hp} {h h' : Heap} {a C dx : Addr} {fs fs' : List (Str × V)}
theorem ins_get (hok : HOk P w H h) (e : H a = some (.ins C dx fs)) : ∃ mA, ObjM h a dx C mA ∧ (∀ f, RelO (fs.lookup f) (mA f)) ∧ PySem.Within mA (fs.map (·.1)) ∧ fs.length ≤ 1000 ∧ H dx = some (.own a) := by
  obtain ⟨d, z, ne, ob, mA, n, r, q⟩ := (show ObjOk P w H h a (.ins C dx fs) from hok a _ e)
  exact ⟨mA, ⟨ob, n, ne⟩, r, q, z, d⟩
end

/-! ### what of the text a class must have -/
structure Cls (K : PySem.W.Frag) (C : Addr) : Prop where
  pg : PySem.W.plainGet K C Str.empty = true
  hd : PySem.W.hasDictIn K C = true
  po : PySem.W.plainOver K C = true
  sa : PySem.W.findIn K (.ref C) "__setattr__" = some (some (.builtin "object.__setattr__"))
theorem Cls.get {K : PySem.W.Frag} {C : Addr} (c : Cls K C) (f : Str) : PySem.W.plainGet K C f = true := c.pg
section
variable {X : Cx} {pins : List (Addr × Obj)} {σ : St} {H : Hp} {s : Shared} {a C dx : Addr} {fs : List (Str × V)} {f : Str} {v : V} {A : Around} {E : Value → Shared → Prop}

end

/-! ### readings and rules -/
section
variable {X : Cx} {o e value : Expr} {f : Str} {pos pos' tpos : Pos} {ta tv : TE}
end

/-! ### isinstance -/
section
variable {X : Cx} {pins : List (Addr × Obj)} {σ : St} {H : Hp} {s : Shared} {A : Around} {E : Value → Shared → Prop} {Q : Value → Shared → Prop} {c : Value} {b : Bool}
inductive TyOf (K : PySem.W.Frag) (H : Hp) : V → Value → Prop where
  | non : TyOf K H .non (.type "NoneType")
  | bl (x : Bool) : TyOf K H (.bl x) (.type "bool")
  | int (i : Int) : TyOf K H (.int i) (.type "int")
  | str (x : Str) : TyOf K H (.str x) (.type "str")
  | flt (x : UInt64) : TyOf K H (.flt x) (.type "float")
  | lst {a : Addr} {xs : List V} (e : H a = some (.lst xs)) : TyOf K H (.ref a) (.type "list")
  | frz {a : Addr} {o : Obj} {xs : List V} (e : H a = some (.frz o (.lst xs))) : TyOf K H (.ref a) (.type "list")
  | tup {a : Addr} {xs : List V} (e : H a = some (.tup xs)) : TyOf K H (.ref a) (.type "tuple")
  | dK {a : Addr} {kvs : List (Key × V)} (e : H a = some (.dK kvs)) : TyOf K H (.ref a) (.type "dict")
  | dT {a : Addr} {kvs : List (List Key × V)} (e : H a = some (.dT kvs)) : TyOf K H (.ref a) (.type "dict")
  | ins {a C dx : Addr} {fs : List (Str × V)} (e : H a = some (.ins C dx fs)) (cl : Cls K C) (ha : PySem.W.findIn K (.ref C) "__class__" = some (some (.builtin "object.__class__")))
      (hn : PySem.W.specialIn K (.builtin "object.__class__") "__get__" = some (some (.builtin "getset_descriptor.__get__"))) (htk : PySem.W.takesIn K (.builtin "object.__class__") = some true)
      (hm : PySem.W.mroIn K C (.type "object") = some true) : TyOf K H (.ref a) (.ref C)
theorem isinst_ok {x : V} {u t : Value} (I : Inv X pins σ H s) (rx : RelV x u) (ty : TyOf X.K H x t) (e : PySem.W.kitOne X.K t c = some b) (h : ∀ tk, Q (.bool b) { s with toks := tk }) :
    wpAny (model X.prog X.w) A (call (.builtin "isinstance") [u, c]) Q E s := by
  cases ty with
  | non => cases (show u = Value.none from rx); exact PySem.W.kia_one PySem.W.kitx_none I.kIn True.intro e (fun z => nomatch z) h
  | bl y => cases (show u = Value.bool y from rx); exact PySem.W.kia_one PySem.W.kitx_bool I.kIn True.intro e (fun z => nomatch z) h
  | int i => obtain ⟨t, q⟩ := (show ∃ t, u = Value.int i t from rx); cases q; exact PySem.W.kia_one PySem.W.kitx_int I.kIn True.intro e (fun z => nomatch z) h
  | str y => obtain ⟨t, q⟩ := (show ∃ t, u = Value.str y t from rx); cases q; exact PySem.W.kia_one PySem.W.kitx_str I.kIn True.intro e (fun z => nomatch z) h
  | flt y => obtain ⟨t, q⟩ := (show ∃ t, u = Value.float y t from rx); cases q; exact PySem.W.kia_one PySem.W.kitx_float I.kIn True.intro e (fun z => nomatch z) h
  | @lst a xs ea =>
    cases (show u = Value.ref a from rx)
    obtain ⟨_, _, n, _, h1⟩ := (show ObjOk X.prog X.w H s.heap a (.lst xs) from I.hok a _ ea)
    exact PySem.W.kia_one PySem.W.kitx_list I.kIn ⟨_, h1, rfl⟩ e (fun z => nomatch z) h
  | @frz a ob xs ea =>
    cases (show u = Value.ref a from rx)
    obtain ⟨_, _, _, n, _, h1⟩ := (show ObjOk X.prog X.w H s.heap a (.frz ob (.lst xs)) from I.hok a _ ea)
    exact PySem.W.kia_one PySem.W.kitx_list I.kIn ⟨_, h1, rfl⟩ e (fun z => nomatch z) h
  | @tup a xs ea =>
    cases (show u = Value.ref a from rx)
    obtain ⟨_, _, _, p⟩ := (show ObjOk X.prog X.w H s.heap a (.tup xs) from I.hok a _ ea)
    obtain ⟨o, h1, h2, _⟩ := p
    exact PySem.W.kia_one PySem.W.kitx_tuple I.kIn ⟨o, h1, h2⟩ e (fun z => nomatch z) h
  | @dK a kvs ea =>
    cases (show u = Value.ref a from rx)
    obtain ⟨_, _, vs, _, p⟩ := (show ObjOk X.prog X.w H s.heap a (.dK kvs) from I.hok a _ ea)
    obtain ⟨o, es, ep, h1, h2, _⟩ := p
    exact PySem.W.kia_one PySem.W.kitx_dict I.kIn ⟨o, h1, h2.1⟩ e (fun z => nomatch z) h
  | @dT a kvs ea =>
    cases (show u = Value.ref a from rx)
    obtain ⟨_, _, xs, _, o, es, ep, h1, h2, _⟩ := (show ObjOk X.prog X.w H s.heap a (.dT kvs) from I.hok a _ ea)
    exact PySem.W.kia_one PySem.W.kitx_dict I.kIn ⟨o, h1, h2.1⟩ e (fun z => nomatch z) h
  | @ins a C dx fs ea cl ha hn htk hm =>
    cases (show u = Value.ref a from rx)
    obtain ⟨mA, O, _⟩ := ins_get I.hok ea
    obtain ⟨od, J, _⟩ := O.look
    exact PySem.W.kia_one (PySem.W.kitx_own (cl.get _) cl.hd ha hn htk hm) I.kIn J e (fun z => nomatch z) h
end
end L2

namespace L2
open PySem PySem.Spec PyProof.Rows

/-! ### room -/
structure Room (k : Nat) (A : Around) : Prop where
  hd : A.handled = none
  dp : A.depth + 3 * k + 5 < recursionLimit
  un : A.units + 16 * k + 200 < cLine
theorem Room.mono {j k : Nat} {A : Around} (r : Room k A) (h : j ≤ k) : Room j A := ⟨r.hd, by have := r.dp; omega, by have := r.un; omega⟩
theorem Room.deeper {k : Nat} {A : Around} (r : Room (k + 1) A) (env : Env) : Room k (A.deeper env) :=
  ⟨r.hd, by have := r.dp; show A.depth + 1 + 3 * k + 5 < _; omega, by have := r.un; show A.units + 3 + 16 * k + 200 < _; omega⟩
theorem Room.depth {k : Nat} {A : Around} (r : Room k A) : A.depth < recursionLimit := by have := r.dp; omega
theorem Room.units {k : Nat} {A : Around} (r : Room k A) : A.units + 64 < cLine := by have := r.un; omega
/-! ### argument lists and displays -/
def tNil : TA := fun _ H Q => Q [] H
def tCons (ta : TE) (tr : TA) : TA := fun σ H Q => ta σ H fun x H1 => tr σ H1 fun xs H2 => Q (x :: xs) H2
section
variable {X : Cx} {e : Expr} {es : List Expr} {te : TE} {t : TA} {pos : Pos}
theorem pa_nil : PA X [] tNil := fun _ _ _ _ H Q I h => Calls.spliced_nil ⟨[], H, I, .nil, h⟩
theorem pa_cons (ha : PE X e te) (hr : PA X es t) (hs : starEach (e :: es) X.env = (false, eval e X.env) :: starEach es X.env := by rfl) : PA X (e :: es) (tCons te t) := by
  intro pos pins s σ H Q I h
  rw [hs]
  show wpAny _ _ (spliced ((false, eval e X.env) :: backTo pos (starEach es X.env))) _ _ s
  refine Calls.spliced_cons (thn (ha pins s σ H _ I h) fun u s1 ⟨x, H1, I1, r1, q1⟩ => ?_)
  exact thn (hr pos pins s1 σ H1 _ I1 q1) fun us s2 ⟨xs, H2, I2, r2, q2⟩ => ⟨x :: xs, H2, I2, .cons r1 r2, q2⟩

def tTup (t : TA) : TE := fun σ H Q => t σ H fun xs H1 => xs.length ≤ sizeLine ∧ ∀ p, H1 p = none → Q (.ref p) (upd H1 p (.tup xs))
def tLst (t : TA) : TE := fun σ H Q => t σ H fun xs H1 => xs.length ≤ sizeLine ∧ ∀ p, H1 p = none → Q (.ref p) (upd H1 p (.lst xs))
theorem pe_tup {x1} (h : PA X es t) : PE X (.Tuple es x1 pos) (tTup t) := by
  intro pins s σ H Q I hq
  refine wpAny_Tuple_spliced (thn (h pos pins s σ H _ I hq) fun us s1 ⟨xs, H1, I1, r, z, q⟩ => ⟨by rw [← r.length]; exact z, ?_⟩)
  have hf : H1 s1.heap.objs.size = none := I1.hok.fresh (Nat.le_refl _)
  refine ⟨.ref s1.heap.objs.size, upd H1 s1.heap.objs.size (.tup xs), I1.laid (t' := s1.toks) (fun b u e => Heap.get?_push_of_some _ e) (Nat.le_refl _) ?_, rfl, q _ hf⟩
  exact ⟨z, us, r, ⟨_, Heap.get?_push_size _ rfl, rfl, _, rfl⟩⟩
theorem pe_lst (h : PA X es t) : PE X (.List es pos) (tLst t) := by
  intro pins s σ H Q I hq
  refine wpAny_List_spliced (thn (h pos pins s σ H _ I hq) fun us s1 ⟨xs, H1, I1, r, z, q⟩ => ⟨by rw [← r.length]; exact z, ?_⟩)
  have hf : H1 s1.heap.objs.size = none := I1.hok.fresh (Nat.le_refl _)
  refine ⟨.ref s1.heap.objs.size, upd H1 s1.heap.objs.size (.lst xs), I1.laid (t' := s1.toks) (fun b u e => Heap.get?_push_of_some _ e) (Nat.le_refl _) ?_, rfl, q _ hf⟩
  exact ⟨z, us, 0, r, Heap.get?_push_size _ rfl⟩
end

/-! ### what a def promises -/
abbrev Sp := List V → Hp → VK → XK → Prop
abbrev CXT := List Env → Hp → Shared → XK → Value → Shared → Prop

structure Env0 (P : Program) (w : World) (K : PySem.W.Frag) (mg : Str → Option Value) (base : Heap) (A : Around) (outer : List Env) (s : Shared) (H : Hp) : Prop where
  frames : A.frames = some outer
  mod : Mod K mg base
  bs : ∀ b o, base.get? b = some o → s.heap.get? b = some o ∧ H b = none
  bsz : base.objs.size ≤ s.heap.objs.size
  funs : s.heap.FunFrames base outer
  frf : ∀ b ∈ frs outer, H b = none
  hok : HOk P w H s.heap
  bare : AllBare s.gens
def CE (outer : List Env) (P : Program) (w : World) (H : Hp) (s : Shared) (Q : VK) (u : Value) (s' : Shared) : Prop :=
  ∃ v H', s'.os = s.os ∧ AllBare s'.gens ∧ Un (frs outer) [] H H' s.heap s'.heap ∧ HOk P w H' s'.heap ∧ RelV v u ∧ Q v H'
def CR (CX : CXT) (outer : List Env) (P : Program) (w : World) (H : Hp) (s : Shared) (Q : VK) (E : XK) (r : Result) (s' : Shared) : Prop :=
  match r with
  | .ok (.ret u) => CE outer P w H s Q u s'
  | .ok _ => False
  | .error e => CX outer H s E e s'
structure FnOk (P : Program) (w : World) (K : PySem.W.Frag) (mg : Str → Option Value) (base : Heap) (CX : CXT) (k : Nat) (f : Addr) (fd : FuncData) (ps : List Str) (sp : Sp) : Prop where
  len : ∀ vs H Q E, sp vs H Q E → vs.length = ps.length
  run : ∀ (A : Around) (outer : List Env) (s : Shared) (H : Hp) (args : Args) (us : List Value) (vs : List V) (Q : VK) (E : XK), Room k A → Env0 P w K mg base A outer s H → BindsTo s fd args (ps.zip us) → Vals vs us → sp vs H Q E →
    codeAny (model P w) A (.call (.ref f) args) (CR CX outer P w H s Q E) s
section
variable {X : Cx} {pins : List (Addr × Obj)} {σ : St} {H : Hp} {s s' : Shared}
theorem Inv.env0 (I : Inv X pins σ H s) : Env0 X.prog X.w X.K X.mg X.base X.A X.stack s H :=
  ⟨I.ok.frames, I.ok.mod, I.bs, Nat.le_trans I.ok.bsz I.sz, I.stack, I.stkFree, I.hok, I.bare⟩
theorem Inv.after {Q : VK} {u : Value} (I : Inv X pins σ H s) (h : CE X.stack X.prog X.w H s Q u s') : EP X pins σ Q u s' := by
  obtain ⟨v, H', os, bare, un, hok, r, q⟩ := h
  obtain ⟨hh, g, d, t, os'⟩ := s'
  obtain rfl : os' = s.os := os
  exact ⟨v, H', I.call (h' := hh) (g' := g) (d' := d) (t' := t) (ch := []) un hok bare (fun b z => absurd z (by simp)), r, q⟩
end

/-! ### calls -/
def Binds (K : PySem.W.Frag) (fd : FuncData) (ps : List Str) (ds : List Value) : Prop :=
  ∀ (s : Shared) (us : List Value), K.In s.heap → (us ++ ds).length = ps.length → BindsTo s fd ⟨us, []⟩ (ps.zip (us ++ ds))
theorem Binds.all {K : PySem.W.Frag} {fd : FuncData} {ps : List Str} (h : ∀ us : List Value, us.length = ps.length → bindArgs fd ⟨us, []⟩ = pure (ps.zip us)) : Binds K fd ps [] := fun s us _ hl => by
  rw [List.append_nil] at hl ⊢
  exact .of_eq (h us hl)

def Passes (CX : CXT) (X : Cx) (E : XK) : Prop := ∀ (pins : List (Addr × Obj)) (σ : St) (H : Hp) (s : Shared) (e : Value) (s' : Shared), Inv X pins σ H s → CX X.stack H s E e s' → X.xe e s'

section
variable {X : Cx} {CX : CXT} {k : Nat} {f C : Addr} {fd : FuncData} {ps : List Str} {sp : Sp} {dvs : List V} {ds : List Value} {E : XK} {x m : Str} {p pos apos : Pos} {e o : Expr} {es : List Expr} {ta : TE} {t : TA}

theorem run_fn {pins : List (Addr × Obj)} {σ : St} {H : Hp} {s : Shared} {Q : VK} {us : List Value} {vs : List V} (F : FnOk X.prog X.w X.K X.mg X.base CX k f fd ps sp) (hr : Room k X.A) (hb : Binds X.K fd ps ds) (hd : Vals dvs ds) (hx : Passes CX X E)
    (I : Inv X pins σ H s) (r : Vals vs us) (h : sp (vs ++ dvs) H Q E) : wpAny (model X.prog X.w) X.A (call (.ref f) us) (EP X pins σ Q) X.xe s := by
  have r2 : Vals (vs ++ dvs) (us ++ ds) := r.append hd
  have hl : (us ++ ds).length = ps.length := by rw [← r2.length]; exact F.len _ _ _ _ h
  refine wpAny_call (codeAny_mono (F.run X.A X.stack s H ⟨us, []⟩ (us ++ ds) (vs ++ dvs) Q E hr I.env0 (hb s us I.kIn hl) r2 h) fun r s' hq => ?_)
  cases r with
  | error e => exact hx pins σ H s e s' I hq
  | ok fl =>
    cases fl with
    | ret u => exact I.after hq
    | next => exact False.elim hq
    | brk => exact False.elim hq
    | cont => exact False.elim hq

structure Mk (K : PySem.W.Frag) (C f : Addr) : Prop where
  makes : PySem.W.makesIn K C = true
  init : PySem.W.findIn K (.ref C) "__init__" = some (some (.ref f))
  fn : PySem.W.isFn K (.ref f) = true
  kp : PySem.W.keepIn K (.ref C) = true

end

/-! ### keywords -/
section
variable {X : Cx} {CX : CXT} {k : Nat} {f C : Addr} {fd : FuncData} {ps ks : List Str} {sp : Sp} {E : XK} {x m : Str} {p pos apos kpos : Pos} {e o : Expr} {es : List Expr} {kws : List Keyword} {te ta : TE} {t tk : TA} {nm : Option Str}
variable {g : List Value → List Value → List Value} {gV : List V → List V → List V}
end

/-! ### a def's body keeps its promise -/
structure FnScope (N P : List Str) (sc : Scope) : Prop where
  kind : sc.kind = .function
  co : sc.isCoroutine = false
  gen : sc.isGenerator = false
  nd : N.Nodup
  pre : N.take P.length = P
  par : ∀ x ∈ P, sc.names.lookup x = some .local ∨ sc.names.lookup x = some .cell
  nofree : ∀ y ∈ sc.names, y.2 ≠ .free

theorem bindL_out {kindOf : Str → Option NameKind} {x : Str} : ∀ {binds : List (Str × Value)} {m : Str → Option Value}, (∀ v, (x, v) ∉ binds) → bindL kindOf binds m x = m x
  | [], _, _ => rfl
  | (n, v) :: r, m, h => by
    unfold bindL
    rw [bindL_out fun w hw => h w (List.mem_cons_of_mem _ hw)]
    split
    · have : x ≠ n := by rintro rfl; exact h v List.mem_cons_self
      simp [this]
    · rfl
theorem bindC_out {kindOf : Str → Option NameKind} {x : Str} : ∀ {binds : List (Str × Value)} {m : Str → Option Value}, (∀ v, (x, v) ∉ binds) → bindC kindOf binds m x = m x
  | [], _, _ => rfl
  | (n, v) :: r, m, h => by
    unfold bindC
    rw [bindC_out fun w hw => h w (List.mem_cons_of_mem _ hw)]
    split
    · rfl
    · have : x ≠ n := by rintro rfl; exact h v List.mem_cons_self
      simp [this]
theorem bindL_get {kindOf : Str → Option NameKind} {x : Str} {v : Value} : ∀ {P : List Str} {vs : List Value} {i : Nat} {m : Str → Option Value}, P.Nodup → P[i]? = some x → vs[i]? = some v → kindOf x = some .local →
    bindL kindOf (P.zip vs) m x = some v
  | [], _, _, _, _, h, _, _ => by simp at h
  | _ :: _, [], _, _, _, _, h, _ => by simp at h
  | p :: P, w :: vs, 0, m, nd, h1, h2, hk => by
    simp at h1 h2; subst h1; subst h2
    show bindL kindOf ((p, w) :: P.zip vs) m p = _
    unfold bindL
    rw [bindL_out fun v hv => (List.nodup_cons.mp nd).1 (List.of_mem_zip hv).1, if_pos hk]
    simp
  | p :: P, w :: vs, i + 1, m, nd, h1, h2, hk => by
    show bindL kindOf ((p, w) :: P.zip vs) m x = _
    unfold bindL
    exact bindL_get (i := i) (List.nodup_cons.mp nd).2 (by simpa using h1) (by simpa using h2) hk
theorem bindC_get {kindOf : Str → Option NameKind} {x : Str} {v : Value} : ∀ {P : List Str} {vs : List Value} {i : Nat} {m : Str → Option Value}, P.Nodup → P[i]? = some x → vs[i]? = some v → kindOf x ≠ some .local →
    bindC kindOf (P.zip vs) m x = some v
  | [], _, _, _, _, h, _, _ => by simp at h
  | _ :: _, [], _, _, _, _, h, _ => by simp at h
  | p :: P, w :: vs, 0, m, nd, h1, h2, hk => by
    simp at h1 h2; subst h1; subst h2
    show bindC kindOf ((p, w) :: P.zip vs) m p = _
    unfold bindC
    rw [bindC_out fun v hv => (List.nodup_cons.mp nd).1 (List.of_mem_zip hv).1, if_neg hk]
    simp
  | p :: P, w :: vs, i + 1, m, nd, h1, h2, hk => by
    show bindC kindOf ((p, w) :: P.zip vs) m x = _
    unfold bindC
    exact bindC_get (i := i) (List.nodup_cons.mp nd).2 (by simpa using h1) (by simpa using h2) hk

def start (N : List Str) (vs : List V) : St := vs.map some ++ List.replicate (N.length - vs.length) none

def cxOf (CX : CXT) (P : Program) (w : World) (K : PySem.W.Frag) (mg : Str → Option Value) (base : Heap) (N : List Str) (qual : Str) (scope : Scope) (f : Addr) (cd : Value) (A : Around) (outer : List Env) (s : Shared) (H : Hp) (E : XK) : Cx where
  prog := P
  w := w
  K := K
  mg := mg
  base := base
  A := A.deeper (envOfC qual scope s.heap.objs.size f cd)
  N := N
  s₀ := s
  H₀ := H
  env := envOfC qual scope s.heap.objs.size f cd
  outer := outer
  stack := envOfC qual scope s.heap.objs.size f cd :: outer
  ex := []
  calm := true
  fn := fun _ => true
  pn := []
  xe := fun e s' => wpAny (model P w) (A.deeper (envOfC qual scope s.heap.objs.size f cd)) (leaving (envOfC qual scope s.heap.objs.size f cd) e) (fun _ s'' => CX outer H s E e s'') (fun e' s'' => CX outer H s E e' s'') s'

theorem cell_has {sc : Scope} {n : Nat} {x : Str} (h : sc.names.lookup x = some .cell) : ∃ c, (cellsFrom n sc.names []).lookup x = some c := by
  have q := PySem.W.cellsFrom_some sc.names n [] (.inl h)
  exact Option.isSome_iff_exists.mp q

theorem inv_start {CX : CXT} {P : Program} {w : World} {K : PySem.W.Frag} {mg : Str → Option Value} {base : Heap} {N ps : List Str} {qual : Str} {scope : Scope} {f : Addr} {cd : Value} {A : Around} {outer : List Env} {s s1 : Shared} {H : Hp} {E : XK} {us : List Value} {vs : List V}
    (S : FnScope N ps scope) (hd : A.handled = none) (e0 : Env0 P w K mg base A outer s H) (hl : vs.length = ps.length) (r : Vals vs us)
    (x : InCallC s s.heap.objs.size (bindL (envOfC qual scope s.heap.objs.size f cd).kindOf (ps.zip us) fun _ => none) (cellsFrom (s.heap.objs.size + 1) scope.names []) (bindC (envOfC qual scope s.heap.objs.size f cd).kindOf (ps.zip us) fun _ => none) s1) :
    Inv (cxOf CX P w K mg base N qual scope f cd A outer s H E) [] (start N vs) H s1 := by
  have hpl : ps.length ≤ N.length := by have := congrArg List.length S.pre; rw [List.length_take] at this; omega
  obtain ⟨h1, tk, rfl, hk⟩ := x.done
  have noA : ∀ b : Addr, b ∉ (cxOf CX P w K mg base N qual scope f cd A outer s H E).ex := fun b z => absurd (show b ∈ ([] : List Addr) from z) (by simp)
  refine ⟨⟨e0.mod, S.kind, rfl, rfl, Nat.le_refl _, fun y z c h1 h2 => ?_, fun y hy => ?_, fun y c _ h => ?_, fun _ => hd, Around.frames_deeper e0.frames, .inr ⟨rfl, rfl⟩, fun b z => absurd z (noA b), e0.bs, e0.bsz, fun b _ _ => noA b, fun b z => absurd z (noA b), e0.funs, e0.frf⟩,
    rfl, e0.bare, Un.kept hk, ⟨_, x.toInCall.ns, fun i y v h1 h2 h3 => ?_⟩, fun y c h => ⟨_, x.cell y c h⟩, e0.hok.fresh (Nat.le_refl _), fun y c h => ?_, fun p hp => absurd (show p ∈ ([] : List (Addr × Obj)) from hp) (by simp), e0.hok.kept hk, ?_⟩
  · exact name_of_addr x.apart (PySem.mem_of_lookup h1) (PySem.mem_of_lookup h2)
  · have hy : scope.names.lookup y = some .cell ∨ scope.names.lookup y = some .free := hy
    rcases hy with hy | hy
    · exact cell_has hy
    · exact absurd rfl (S.nofree _ (PySem.mem_of_lookup hy))
  · exact Nat.le_of_lt (x.above y c (PySem.mem_of_lookup h))
  · have hi : i < vs.length := by
      unfold start at h2
      by_cases hi : i < vs.length
      · exact hi
      · rw [List.getElem?_append_right (by simpa using hi)] at h2
        rw [List.getElem?_replicate] at h2
        split at h2 <;> cases h2
    have ha : vs[i]? = some v := by
      unfold start at h2
      rw [List.getElem?_append_left (by simpa using hi), List.getElem?_map] at h2
      cases e : vs[i]? with
      | none => rw [e] at h2; cases h2
      | some a => rw [e] at h2; cases h2; rfl
    obtain ⟨u, hu, rv⟩ := r.get ha
    have hp : ps[i]? = some y := by
      rw [← S.pre, List.getElem?_take_of_lt (by omega)]; exact h1
    have ndP : ps.Nodup := by rw [← S.pre]; exact S.nd.sublist (List.take_sublist _ _)
    refine ⟨u, rv, ?_⟩
    rcases S.par y (List.mem_of_getElem? hp) with k | k
    · exact .inl ⟨k, bindL_get ndP hp hu k⟩
    · obtain ⟨c, e⟩ := cell_has (n := s.heap.objs.size + 1) k
      refine .inr ⟨.inl k, c, e, ?_⟩
      have q := x.cell y c e
      rw [bindC_get ndP hp hu (by show scope.names.lookup y ≠ _; rw [k]; decide)] at q
      exact q
  · exact e0.hok.fresh (Nat.le_of_lt (x.above y c (PySem.mem_of_lookup h)))
  · unfold start
    show _ = N.length
    rw [List.length_append, List.length_map, List.length_replicate]
    omega

theorem fn_of {CX : CXT} {P : Program} {w : World} {K : PySem.W.Frag} {mg : Str → Option Value} {base : Heap} {k : Nat} {f : Addr} {name qual : Str} {params : Arguments} {body : List Stmt} {scope : Scope} {dV kV doc pm cdv ct oc : Value} {an od : Option Addr}
    {osl : Array (Option Value)} {N ps : List Str} {sp : Sp} (lk : K.lookup f = some ⟨oc, od, .func (PySem.W.fnOf name qual params body scope dV kV doc pm an cdv ct), osl⟩) (hcd : PySem.W.codeIn K cdv qual = true) (S : FnScope N ps scope)
    (len : ∀ vs H Q E, sp vs H Q E → vs.length = ps.length)
    (hbody : ∀ (A : Around) (outer : List Env) (s : Shared) (H : Hp) (vs : List V) (Q : VK) (E : XK), Room k (A.deeper (envOfC qual scope s.heap.objs.size f cdv)) → sp vs H Q E →
      ∃ t, PSs (cxOf CX P w K mg base N qual scope f cdv A outer s H E) body t ∧ t { nx := fun _ H' => Q .non H', rt := Q } (start N vs) H) :
    FnOk P w K mg base CX (k + 1) f (PySem.W.fnOf name qual params body scope dV kV doc pm an cdv ct) ps sp := by
  refine ⟨len, fun A outer s H args us vs Q E hr e0 hb r hsp => ?_⟩
  have hl := len _ _ _ _ hsp
  have KX : K.In s.heap := e0.mod.kin.keeps fun b o e => (e0.bs b o e).1
  have lim : s.heap.NoLimit := e0.mod.nolimit.keeps fun b o e => (e0.bs b o e).1
  have hkind : ∀ y ∈ ps.zip us, scope.names.lookup y.1 = some .local ∨ (scope.names.lookup y.1 = some .cell ∧ ((cellsFrom (s.heap.objs.size + 1) scope.names []).lookup y.1).isSome = true) := fun ⟨n, v⟩ hy => by
    rcases S.par n (List.of_mem_zip hy).1 with q | q
    · exact .inl q
    · exact .inr ⟨q, PySem.W.cellsFrom_some _ _ _ (.inl q)⟩
  refine codeAny_call_function hr.depth (KX _ _ lk) rfl S.co S.gen rfl (PySem.W.codeRec_of KX hcd) (hb _ _ _ _ ?_)
  refine wpAny_newFunctionEnv_cells S.kind hkind fun env he s1 x => ?_
  subst he
  refine ⟨lim.keeps x.toInCall.keep, codeAny_func ?_⟩
  obtain ⟨t, ht, hq⟩ := hbody A outer s H vs Q E (hr.deeper _) hsp
  have I : Inv (cxOf CX P w K mg base N qual scope f cdv A outer s H E) [] (start N vs) H s1 := inv_start S hr.hd e0 hl r x
  refine wpAny_mono (ht [] s1 (start N vs) H _ I hq) (fun fl s' hs => ?_) fun e s' hs => hs
  have fin : ∀ {σ' : St} {H' : Hp} {v : V} {u : Value}, Inv (cxOf CX P w K mg base N qual scope f cdv A outer s H E) [] σ' H' s' → RelV v u → Q v H' → CE outer P w H s Q u s' :=
    fun {σ' H' v u} J rv q => ⟨v, H', J.os, J.bare, J.base, J.hok, rv, q⟩
  cases fl with
  | ret u =>
    obtain ⟨v, σ', H', J, rv, q⟩ := hs
    exact fin J rv q
  | next =>
    obtain ⟨σ', H', J, q⟩ := hs
    exact fin (v := V.non) (u := Value.none) J rfl q
  | brk =>
    obtain ⟨_, _, _, q⟩ := hs
    exact False.elim q
  | cont =>
    obtain ⟨_, _, _, q⟩ := hs
    exact False.elim q
end L2

namespace L2
open PySem PySem.Spec PyProof.Rows
section
variable {X : Cx} {x : Str} {p pos : Pos} {e : Expr} {es : List Expr} {t : TA} {id T : String} {r : List V → Hp → VK → Prop}

def tCB (r : List V → Hp → VK → Prop) (t : TA) : TE := fun σ H Q => t σ H fun vs H1 => r vs H1 Q
theorem pe_callB (hc : CallR X (.builtin id) r) (hg : Gl X x) (hm : X.mg x = none) (hv : bootBuiltins x = some (.builtin id)) (ha : PA X (e :: es) t) (hn : x ≠ "__name__" := by decide) (hdb : (x == ("__debug__" : Str)) = false := by decide)
    (he : starEach (e :: es) X.env = (false, eval e X.env) :: starEach es X.env := by rfl) (hpl : (backTo pos (starEach es X.env)).any (·.1) = false := by rfl) : PE X (.Call (.Name x p) (e :: es) [] pos) (tCB r t) := by
  intro pins s σ H Q I h
  refine wpAny_Call_Name_kw (ld_blt I hg hm hv ?_ hn hdb)
  exact PyProof.Rows.callWith_builtin1 (thn (ha pos pins s σ H _ I h) fun us s1 ⟨vs, H1, I1, r1, q1⟩ => hc pins s1 σ H1 vs us Q I1 r1 q1) he hpl
theorem pe_callTy (hc : CallR X (.type T) r) (hg : Gl X x) (hm : X.mg x = none) (hv : bootBuiltins x = some (.type T)) (ha : PA X (e :: es) t) (hn : x ≠ "__name__" := by decide) (hdb : (x == ("__debug__" : Str)) = false := by decide)
    (he : starEach (e :: es) X.env = (false, eval e X.env) :: starEach es X.env := by rfl) (hpl : (backTo pos (starEach es X.env)).any (·.1) = false := by rfl) : PE X (.Call (.Name x p) (e :: es) [] pos) (tCB r t) := by
  intro pins s σ H Q I h
  refine wpAny_Call_Name_kw (ld_blt I hg hm hv ?_ hn hdb)
  exact PyProof.Rows.callWith_type1 (thn (ha pos pins s σ H _ I h) fun us s1 ⟨vs, H1, I1, r1, q1⟩ => hc pins s1 σ H1 vs us Q I1 r1 q1) he hpl
end
end L2

namespace HT
open PySem PyProof.Rows

def lexLt : List Int → List Int → Bool
  | [], [] => false
  | [], _ :: _ => true
  | _ :: _, [] => false
  | x :: xs, y :: ys => if x = y then lexLt xs ys else decide (x < y)
section
open PySem.SeqAt
open PySem.AutoSeq1 (wpAny_loadPart')
open PySem.MeetsSeq PySem.MeetsSeq2 PySem.MeetsSeq3

end

section
variable {prog : Program} {w : World} {A : Around} {E : Value → Shared → Prop} {s : Shared}

/-! ### t[a:b], not the whole -/
def sIx (n d : Nat) : Option Int → Nat
  | none => d
  | some v => if v < 0 then (v + (n : Int)).toNat else min v.toNat n
theorem sIx_none (n d : Nat) : sIx n d none = d := rfl
theorem sIx_nat (n d k : Nat) : sIx n d (some (k : Int)) = min k n := by
  show (if (k : Int) < 0 then ((k : Int) + (n : Int)).toNat else min (k : Int).toNat n) = min k n
  rw [if_neg (by omega), Int.toNat_natCast]
theorem sIx_le (n d : Nat) (hd : d ≤ n) (o : Option Int) : sIx n d o ≤ n := by
  cases o with
  | none => exact hd
  | some v =>
    show (if v < 0 then (v + (n : Int)).toNat else min v.toNat n) ≤ n
    by_cases hv : v < 0
    · rw [if_pos hv]; omega
    · rw [if_neg hv]; exact Nat.min_le_right _ _
theorem clip_eq (v : Int) (n d : Nat) : (if v < 0 then max (v + (n : Int)) 0 else min v (n : Int)) = ((sIx n d (some v) : Nat) : Int) := by
  show (if v < 0 then max (v + (n : Int)) 0 else min v (n : Int)) = (((if v < 0 then (v + (n : Int)).toNat else min v.toNat n) : Nat) : Int)
  by_cases hv : v < 0
  · simp only [if_pos hv]; omega
  · simp only [if_neg hv]; omega
theorem adjust_gen (lo hi : Option Int) (n : Nat) : Builtin.Slice.sliceAdjust lo hi 1 (n : Int) = (((sIx n 0 lo : Nat) : Int), ((sIx n n hi : Nat) : Int)) := by
  have h1 : ¬ ((1 : Int) < 0) := by omega
  unfold Builtin.Slice.sliceAdjust
  simp only [h1, if_false]
  refine Prod.ext ?_ ?_
  · cases lo with
    | none => rfl
    | some v => exact clip_eq v n 0
  · cases hi with
    | none => rfl
    | some v => exact clip_eq v n n
theorem places_gen (i j : Nat) : Builtin.Slice.slicePlaces (i : Int) (j : Int) 1 = j - i := by
  unfold Builtin.Slice.slicePlaces
  have h1 : (1 : Int) > 0 := by omega
  simp only [h1, if_true, Int.ediv_one]
  split <;> omega
theorem slicePart_ {v : Value} {o : Option Int} {Q : Option Int → Shared → Prop} (p : IsPart v o) (h : Q o s) : wpAny (model prog w) A (Builtin.Slice.slicePartIndex v) Q E s := by
  cases p with
  | none => exact slicePart_none h
  | int i t => exact slicePart_int h
theorem sliceApplied_gen {sl : Addr} {vl vu : Value} {lo hi : Option Int} {n : Nat} {Q : Int × Int × Nat → Shared → Prop} (hs : s.heap.IsSliceOf sl vl vu .none) (pl : IsPart vl lo) (pu : IsPart vu hi)
    (h : Q (((sIx n 0 lo : Nat) : Int), 1, sIx n n hi - sIx n 0 lo) s) : wpAny (model prog w) A (Builtin.Slice.sliceApplied (.ref sl) (pure (n : Int))) Q E s := by
  obtain ⟨os, hos, hcs, hds⟩ := id hs
  unfold Builtin.Slice.sliceApplied Builtin.Slice.sliceFields
  refine wpAny_bind (wpAny_bind (wpAny_field hos hds (x := vl) rfl (wpAny_bind (wpAny_field hos hds (x := vu) rfl (wpAny_bind (wpAny_field hos hds (x := .none) rfl (wpAny_pure ?_)))))))
  refine wpAny_bind (slicePart_none ?_)
  show wpAny _ _ (if ((1 : Int) == 0) = true then _ else _) _ _ s
  rw [if_neg (by decide)]
  refine wpAny_bind (slicePart_ pl (wpAny_bind (slicePart_ pu (wpAny_bind (wpAny_pure ?_)))))
  show wpAny _ _ (match Builtin.Slice.sliceAdjust lo hi 1 (n : Int) with | (lo, hi) => pure (lo, (1 : Int), Builtin.Slice.slicePlaces lo hi 1)) _ _ s
  rw [adjust_gen lo hi n]
  show wpAny _ _ (pure (((sIx n 0 lo : Nat) : Int), (1 : Int), Builtin.Slice.slicePlaces ((sIx n 0 lo : Nat) : Int) ((sIx n n hi : Nat) : Int) 1)) _ _ s
  rw [places_gen]
  exact wpAny_pure h
theorem pick_gen (xs : Array Value) (i k : Nat) : ((List.range k).filterMap fun (m : Nat) => xs[((i : Int) + (m : Int) * 1).toNat]?).toArray = ((xs.toList.drop i).take k).toArray := by
  have e : (fun (m : Nat) => xs[((i : Int) + (m : Int) * 1).toNat]?) = fun m => xs[i + m]? := by
    funext m
    have : ((i : Int) + (m : Int) * 1).toNat = i + m := by omega
    rw [this]
  rw [e]
  have := pick_run xs i k
  rw [List.filterMap_map] at this
  have e2 : ((fun x => xs[x]?) ∘ fun x => i + x) = fun m => xs[i + m]? := rfl
  rw [e2] at this
  rw [this]

theorem getItem_tuple_cut {t sl : Addr} {items : Array Value} {vl vu : Value} {lo hi : Option Int} {Q : Value → Shared → Prop} (ht : IsTup s.heap t items) (hs : s.heap.IsSliceOf sl vl vu .none) (pl : IsPart vl lo) (pu : IsPart vu hi)
    (hw : ¬ (sIx items.size 0 lo = 0 ∧ sIx items.size items.size hi = items.size))
    (h : Q (.ref s.heap.objs.size) { s with heap := s.heap.push { cls := .type "tuple", data := .seq ((items.toList.drop (sIx items.size 0 lo)).take (sIx items.size items.size hi - sIx items.size 0 lo)).toArray } })
    (hsz : items.size ≤ sizeLine) : wpAny (model prog w) A (getItem (.ref t) (.ref sl)) Q E s := by
  have htake : sizeOk (.seq ((items.toList.drop (sIx items.size 0 lo)).take (sIx items.size items.size hi - sIx items.size 0 lo)).toArray) := by
    show ((items.toList.drop (sIx items.size 0 lo)).take (sIx items.size items.size hi - sIx items.size 0 lo)).toArray.size ≤ sizeLine
    rw [List.size_toArray, List.length_take, List.length_drop, Array.length_toList]
    omega
  have hj : sIx items.size items.size hi ≤ items.size := sIx_le _ _ (Nat.le_refl _) hi
  obtain ⟨os, hos, hcs, hds⟩ := id hs
  have hTs : s.TypeIs (.ref sl) "slice" := ⟨os, hos, hcs⟩
  unfold getItem
  try with_reducible refine wpAny_holding ?_
  first | refine wpAny_bind (wpAny_pure ?_) | skip
  refine wpAny_bind (wpAny_sequenceKey ht.typeIs (by decide) ?_)
  refine wpAny_bind (wpAny_callSpecial?_slot (name := Str.ofString "__getitem__") ht.typeIs PyProof.Rows.slot_tuple_getitem
    (wpAny_call_entry PyProof.Rows.slot_tuple_getitem ht.typeIs entry_tuple_getitem ?_ (args_tuple_getitem _ _)))
  show wpAny _ _ (Builtin.Tuple.tupleItemsOf (.ref t) >>= _) _ _ s
  refine wpAny_bind (tupleItemsOf_ ht ?_)
  refine wpAny_bind (wpAny_typeOf hTs ?_)
  rw [if_pos (by decide)]
  refine wpAny_bind (sliceApplied_gen hs pl pu ?_)
  have hno : ¬ ((((sIx items.size 0 lo : Nat) : Int) == 0 && (1 : Int) == 1 && (sIx items.size items.size hi - sIx items.size 0 lo) == items.size) = true) := by
    intro q
    rw [Bool.and_eq_true, Bool.and_eq_true] at q
    have q1 : ((sIx items.size 0 lo : Nat) : Int) = 0 := eq_of_beq q.1.1
    have q2 : sIx items.size items.size hi - sIx items.size 0 lo = items.size := eq_of_beq q.2
    exact hw ⟨by omega, by omega⟩
  show wpAny _ _ (if (((sIx items.size 0 lo : Nat) : Int) == 0 && (1 : Int) == 1 && (sIx items.size items.size hi - sIx items.size 0 lo) == items.size) = true then _ else _) _ _ s
  rw [if_neg hno, pick_gen]
  first
    | exact wpAny_bind (m := Builtin.Tuple.tupleExact _) (wpAny_newObj_type (wpAny_pure ⟨_, rfl, wpAny_pure h⟩) htake)
    | exact wpAny_bind (m := Builtin.Tuple.tupleExact _) (wpAny_newObj_type (wpAny_bind (wpAny_pure (wpAny_pure ⟨_, rfl, wpAny_pure h⟩))) htake)
    | exact wpAny_bind (wpAny_bind (m := Builtin.Tuple.tupleExact _) (wpAny_newObj_type (wpAny_pure (wpAny_pure ⟨_, rfl, wpAny_pure h⟩)) htake))
    | exact wpAny_bind (wpAny_bind (m := Builtin.Tuple.tupleExact _) (wpAny_newObj_type (wpAny_pure ⟨_, rfl, wpAny_pure h⟩) htake))
end
end HT

namespace L2
open PySem PySem.Spec PyProof.Rows

/-! ### the parts of a slice -/
abbrev TO := St → Hp → (Option Int → Hp → Prop) → Prop
def PO (X : Cx) (e : Option Expr) (t : TO) : Prop :=
  ∀ (pins : List (Addr × Obj)) (s : Shared) (σ : St) (H : Hp) (Q : Option Int → Hp → Prop), Inv X pins σ H s → t σ H Q →
    wpAny (model X.prog X.w) X.A (evalPart e X.env) (fun u s' => ∃ o H', Inv X pins σ H' s' ∧ IsPart u o ∧ Q o H') X.xe s
def tNoPart : TO := fun _ H Q => Q none H
def tPart (t : TE) : TO := fun σ H Q => t σ H fun x H1 => ∃ i, x = .int i ∧ Q (some i) H1

section
variable {X : Cx} {e : Expr} {te : TE} {lo hi : Option Expr} {tl th : TO} {pos p2 : Pos}

theorem po_none : PO X none tNoPart := by
  intro pins s σ H Q I h
  rw [evalPart_none]
  exact wpAny_pure ⟨none, H, I, .none, h⟩
theorem po_some (h : PE X e te) : PO X (some e) (tPart te) := by
  intro pins s σ H Q I hw
  rw [evalPart_some]
  refine thn (h pins s σ H _ I hw) fun u s1 ⟨x, H1, I1, r1, q1⟩ => ?_
  obtain ⟨i, rfl, q⟩ := q1
  obtain ⟨t, rfl⟩ := r1
  exact ⟨some i, H1, I1, .int i t, q⟩

def SlR (X : Cx) (r : V → Option Int → Option Int → Hp → VK → Prop) : Prop :=
  ∀ (pins : List (Addr × Obj)) (s : Shared) (σ : St) (H : Hp) (x : V) (v vl vu : Value) (lo hi : Option Int) (sl : Addr) (Q : VK), Inv X pins σ H s → RelV x v → s.heap.IsSliceOf sl vl vu .none → IsPart vl lo → IsPart vu hi → r x lo hi H Q →
    ∃ T id, typeLookup (.type T) "__getitem__" = pure (some (.builtin id)) ∧ s.TypeIs v T ∧ wpAny (model X.prog X.w) X.A (getItem v (.ref sl)) (EP X pins σ Q) X.xe s
def tSl (r : V → Option Int → Option Int → Hp → VK → Prop) (te : TE) (tl th : TO) : TE := fun σ H Q => te σ H fun x H1 => tl σ H1 fun l H2 => th σ H2 fun u H3 => r x l u H3 Q
theorem pe_slice {r : V → Option Int → Option Int → Hp → VK → Prop} (hr : SlR X r) (he : PE X e te) (hl : PO X lo tl) (hu : PO X hi th) : PE X (.Subscript e (.Slice lo hi none p2) pos) (tSl r te tl th) := by
  intro pins s σ H Q I h
  refine Subscript_ (thn (he pins s σ H _ I h) fun v s1 ⟨x, H1, I1, r1, q1⟩ => ?_)
  refine wpAny_Slice (thn (hl pins s1 σ H1 _ I1 q1) fun vl s2 ⟨l, H2, I2, pl, q2⟩ => thn (hu pins s2 σ H2 _ I2 q2) fun vu s3 ⟨u, H3, I3, pu, q3⟩ => ?_)
  rw [evalPart_none]
  refine wpAny_pure ?_
  have I4 : Inv X pins σ H3 { s3 with heap := s3.heap.push { cls := .type "slice", data := .fields #[vl, vu, .none] } } := I3.kept (t' := s3.toks) fun b ob q => Heap.get?_push_of_some _ q
  obtain ⟨T, id, hT, ht, hg⟩ := hr pins { s3 with heap := s3.heap.push { cls := .type "slice", data := .fields #[vl, vu, .none] } } σ H3 x v vl vu l u s3.heap.objs.size Q I4 r1 (Heap.IsSliceOf.new ..) pl pu q3
  show wpAny (model X.prog X.w) X.A (subscriptTail e (.Slice lo hi none p2) v (.ref s3.heap.objs.size)) (EP X pins σ Q) X.xe { s3 with heap := s3.heap.push { cls := .type "slice", data := .fields #[vl, vu, .none] } }
  exact tail_any (ops := [.ref s3.heap.objs.size, v]) ht hT hg (by with_unfolding_all rfl)

def cutV (xs : List V) (lo hi : Option Int) : List V := (xs.drop (HT.sIx xs.length 0 lo)).take (HT.sIx xs.length xs.length hi - HT.sIx xs.length 0 lo)
theorem cutV_length (xs : List V) (lo hi : Option Int) : (cutV xs lo hi).length ≤ xs.length := by
  unfold cutV
  rw [List.length_take, List.length_drop]
  omega
def rSlT (K : PySem.W.Frag) : V → Option Int → Option Int → Hp → VK → Prop := fun x lo hi H Q => ∃ a xs, x = .ref a ∧ SqT K H a xs ∧
  ¬ (HT.sIx xs.length 0 lo = 0 ∧ HT.sIx xs.length xs.length hi = xs.length) ∧ ∀ p, H p = none → Q (.ref p) (upd H p (.tup (cutV xs lo hi)))
theorem sl_tup : SlR X (rSlT X.K) := by
  intro pins s σ H x v vl vu lo hi sl Q I rx hs pl pu h
  obtain ⟨a, xs, rfl, hx, hw, q⟩ := h
  cases rx
  obtain ⟨its, r, ht, hz⟩ := I.tuple hx
  have hlen : its.toArray.size = xs.length := by rw [List.size_toArray]; exact r.length.symm
  refine ⟨"tuple", _, PyProof.Rows.slot_tuple_getitem.lookup, ht.typeIs, ?_⟩
  refine HT.getItem_tuple_cut ht hs pl pu (by rw [hlen]; exact hw) ?_ (by rw [hlen]; exact hz)
  rw [hlen]
  refine ⟨.ref s.heap.objs.size, _, I.laid (t' := s.toks) (o := .tup (cutV xs lo hi)) (fun b ob q => Heap.get?_push_of_some _ q) (Nat.le_refl _) ?_, rfl, q _ (I.hok.fresh (Nat.le_refl _))⟩
  exact ⟨Nat.le_trans (cutV_length xs lo hi) hz, _, (r.drop (HT.sIx xs.length 0 lo)).take (HT.sIx xs.length xs.length hi - HT.sIx xs.length 0 lo), IsTup.new _ _⟩

/-! ### t < u, t + u -/
end
end L2

namespace L2
open PySem PySem.Spec PyProof.Rows

/-! ### places -/
def ixN (n : Nat) (i : Int) : Option Nat := if 0 ≤ i then (if i < n then some i.toNat else none) else if -(n : Int) ≤ i then some (i + n).toNat else none
def atI {α : Type} (xs : List α) (i : Int) : Option α := (ixN xs.length i).bind fun j => xs[j]?
theorem ixN_seq {n : Nat} {i : Int} {j : Nat} (h : ixN n i = some j) : seqIndex? i n = some j ∧ j < n ∧ -(n : Int) ≤ i ∧ i < n := by
  unfold ixN at h
  by_cases h0 : 0 ≤ i
  · rw [if_pos h0] at h
    by_cases h1 : i < n
    · rw [if_pos h1] at h
      have e : i.toNat = j := Option.some.inj h
      exact ⟨by rw [seqIndex_of h0 h1, e], by omega, by omega, h1⟩
    · rw [if_neg h1] at h; cases h
  · rw [if_neg h0] at h
    by_cases h1 : -(n : Int) ≤ i
    · rw [if_pos h1] at h
      have e : (i + n).toNat = j := Option.some.inj h
      exact ⟨by rw [seqIndex_neg (by omega) h1, e], by omega, h1, by omega⟩
    · rw [if_neg h1] at h; cases h
theorem atI_get {α : Type} {xs : List α} {i : Int} {v : α} (h : atI xs i = some v) : ∃ j, seqIndex? i xs.length = some j ∧ xs[j]? = some v ∧ j < xs.length ∧ -(xs.length : Int) ≤ i ∧ i < xs.length := by
  unfold atI at h
  cases e : ixN xs.length i with
  | none => rw [e] at h; cases h
  | some j =>
    rw [e] at h
    obtain ⟨h1, h2, h3, h4⟩ := ixN_seq e
    exact ⟨j, h1, h, h2, h3, h4⟩
theorem atI_nat {α : Type} {xs : List α} {j : Nat} {v : α} (h : xs[j]? = some v) : atI xs (j : Int) = some v := by
  have hj : j < xs.length := (List.getElem?_eq_some_iff.mp h).1
  have e : ixN xs.length (j : Int) = some j := by
    unfold ixN
    rw [if_pos (by omega), if_pos (by omega)]; simp
  unfold atI; rw [e]; exact h
/-! ### what may be subscripted -/
def PlainIx (b : Expr) : Prop := ∀ o i, subscripted b false o i = operate [o, i] (getItem o i)
def IxR (X : Cx) (r : R2) : Prop :=
  ∀ (value slice : Expr) (pins : List (Addr × Obj)) (s : Shared) (σ : St) (H : Hp) (x y : V) (v u : Value) (Q : VK), Inv X pins σ H s → RelV x v → RelV y u → r x y H Q →
    subscripted slice false v u = operate [v, u] (getItem v u) → wpAny (model X.prog X.w) X.A (subscriptTail value slice v u) (EP X pins σ Q) X.xe s
def MtR (X : Cx) (id : String) (r : V → List V → Hp → VK → Prop) : Prop :=
  ∀ (pins : List (Addr × Obj)) (s : Shared) (σ : St) (H : Hp) (x : V) (xs : List V) (v : Value) (us : List Value) (Q : VK), Inv X pins σ H s → RelV x v → Vals xs us → r x xs H Q →
    wpAny (model X.prog X.w) X.A (call (.builtin id) (v :: us)) (EP X pins σ Q) X.xe s
section
variable {X : Cx} {a b : Expr} {ta tb : TE} {pos : Pos}
theorem pe_ix {r : R2} (hr : IxR X r) (ha : PE X a ta) (hb : PE X b tb) (hs : PlainIx b) : PE X (.Subscript a b pos) (tOp r ta tb) := by
  intro pins s σ H Q I h
  exact Subscript_ (binT ha hb I h fun v u s2 x y H2 I2 rx ry q => hr a b pins s2 σ H2 x y v u Q I2 rx ry q (hs _ _))

def rIxL (K : PySem.W.Frag) : R2 := fun x y H Q => ∃ p xs i v, x = .ref p ∧ y = .int i ∧ SqL K H p xs ∧ atI xs i = some v ∧ Q v H
def rIxT (K : PySem.W.Frag) : R2 := fun x y H Q => ∃ p xs i v, x = .ref p ∧ y = .int i ∧ SqT K H p xs ∧ atI xs i = some v ∧ Q v H
def rIxS : R2 := fun x y H Q => ∃ z i c, x = .str z ∧ y = .int i ∧ z.length ≤ sizeLine ∧ atI z.cps.toList i = some c ∧ Q (.str ⟨#[c]⟩) H
theorem ix_list : IxR X (rIxL X.K) := by
  intro value slice pins s σ H x y v u Q I rx ry h hs
  obtain ⟨p, xs, i, z, rfl, rfl, hq, he, q⟩ := h
  cases rx
  obtain ⟨t, rfl⟩ := ry
  obtain ⟨its, r, pl, hz⟩ := I.list hq
  obtain ⟨j, h1, h2, h3, h4, h5⟩ := atI_get he
  obtain ⟨w, ew, rw'⟩ := r.get h2
  have hl := r.length
  have hn := line63
  have fin : EP X pins σ Q w s := ⟨z, H, I, rw', q⟩
  by_cases h0 : 0 ≤ i
  · have hj : i.toNat = j := by
      rw [seqIndex_of h0 h5] at h1
      exact Option.some.inj h1
    exact item_listR pl.isList h0 (by omega) (by rw [hj]; simpa using ew) fin hs
  · have hj : (i + (its.toArray.size : Int)).toNat = j := by
      rw [seqIndex_neg (by omega) h4] at h1
      rw [List.size_toArray, ← hl]
      exact Option.some.inj h1
    exact subscriptTail_builtinR (x := w) pl.isList.typeIs slot_list_getitem.lookup
      (wpAny_getItem_list_neg (Q := fun r s' => r = w ∧ EP X pins σ Q r s') pl.isList (by omega) (by rw [List.size_toArray] <;> omega) (by omega) (by rw [hj]; simpa using ew) ⟨rfl, fin⟩) hs
theorem ix_tup : IxR X (rIxT X.K) := by
  intro value slice pins s σ H x y v u Q I rx ry h hs
  obtain ⟨p, xs, i, z, rfl, rfl, hq, he, q⟩ := h
  cases rx
  obtain ⟨t, rfl⟩ := ry
  obtain ⟨its, r, pl, hz⟩ := I.tuple hq
  obtain ⟨j, h1, h2, h3, h4, h5⟩ := atI_get he
  obtain ⟨w, ew, rw'⟩ := r.get h2
  have hl := r.length
  have hn := line63
  have fin : EP X pins σ Q w s := ⟨z, H, I, rw', q⟩
  exact subscriptTail_builtinR (x := w) pl.typeIs slot_tuple_getitem.lookup
    (getItem_tuple (j := j) (Q := fun r s' => r = w ∧ EP X pins σ Q r s') pl (by omega) (by omega) (by rw [List.size_toArray, ← hl]; exact h1) (by simpa using ew) ⟨rfl, fin⟩) hs
theorem ix_str : IxR X rIxS := by
  intro value slice pins s σ H x y v u Q I rx ry h hs
  obtain ⟨z, i, c, rfl, rfl, hz, he, q⟩ := h
  obtain ⟨t, rfl⟩ := rx
  obtain ⟨t', rfl⟩ := ry
  obtain ⟨j, h1, h2, h3, h4, h5⟩ := atI_get he
  have hl : z.cps.toList.length = z.length := by simp [Str.length]
  rw [hl] at h1 h4 h5
  have hn := line63
  exact tail_any (typeIs_str s z t) slot_str_getitem.lookup (getItem_str (c := c) (by
    have e1 : decide (i < -(2 ^ 63 : Int)) = false := decide_eq_false (by omega)
    have e2 : decide (i ≥ 2 ^ 63) = false := decide_eq_false (by omega)
    rw [e1, e2, Bool.or_false]) (by rw [h1]; simpa using h2) ⟨.str ⟨#[c]⟩, H, I.tok _, ⟨_, rfl⟩, q⟩) hs
/-! ### xs[i] = v, any sign -/
/-! ### slices -/
theorem slice_bounds (lo hi : Option Int) (n : Nat) : (sliceBounds lo hi none n).1 = ((HT.sIx n 0 lo : Nat) : Int) ∧ (sliceBounds lo hi none n).2.1 = ((HT.sIx n n hi : Nat) : Int) ∧ (sliceBounds lo hi none n).2.2 = 1 := by
  refine ⟨?_, ?_, rfl⟩
  · cases lo with
    | none => simp [sliceBounds, HT.sIx]
    | some i =>
      simp only [sliceBounds, HT.sIx, Option.getD_none, show (1 : Int) > 0 by decide, if_true]
      by_cases h : i < 0
      · simp only [h, if_true] <;> omega
      · simp only [h, if_false] <;> omega
  · cases hi with
    | none => simp [sliceBounds, HT.sIx]
    | some i =>
      simp only [sliceBounds, HT.sIx, Option.getD_none, show (1 : Int) > 0 by decide, if_true]
      by_cases h : i < 0
      · simp only [h, if_true] <;> omega
      · simp only [h, if_false] <;> omega
theorem slicePick_cut (its : List Value) (lo hi : Option Int) : slicePick its.toArray lo hi none = ((its.drop (HT.sIx its.length 0 lo)).take (HT.sIx its.length its.length hi - HT.sIx its.length 0 lo)).toArray := by
  obtain ⟨h1, h2, h3⟩ := slice_bounds lo hi its.toArray.size
  unfold slicePick
  rw [h1, h2, h3]
  simp only [sliceRange_one, pick_run, List.size_toArray] <;> rfl
def rSlL (K : PySem.W.Frag) : V → Option Int → Option Int → Hp → VK → Prop := fun x lo hi H Q => ∃ a xs, x = .ref a ∧ SqL K H a xs ∧ ∀ p, H p = none → Q (.ref p) (upd H p (.lst (cutV xs lo hi)))
theorem sl_list : SlR X (rSlL X.K) := by
  intro pins s σ H x v vl vu lo hi sl Q I rx hs pl pu h
  obtain ⟨a, xs, rfl, hx, q⟩ := h
  cases rx
  obtain ⟨its, r, ht, hz⟩ := I.list hx
  have hlen := r.length
  refine ⟨"list", _, slot_list_getitem.lookup, ht.isList.typeIs, ?_⟩
  refine wpAny_getItem_list_slice ht.isList hs pl pu .none (by simp) ?_ (by rw [List.size_toArray] <;> omega)
  rw [slicePick_cut, ← hlen]
  refine ⟨.ref s.heap.objs.size, _, I.laid (t' := s.toks) (o := .lst (cutV xs lo hi)) (fun b ob q => Heap.get?_push_of_some _ q) (Nat.le_refl _) ?_, rfl, q _ (I.hok.fresh (Nat.le_refl _))⟩
  exact ⟨Nat.le_trans (cutV_length xs lo hi) hz, _, 0, (r.drop (HT.sIx xs.length 0 lo)).take (HT.sIx xs.length xs.length hi - HT.sIx xs.length 0 lo), Heap.get?_push_size _ rfl⟩

/-! ### in, not in: flat items -/
def flatV : V → Bool
  | .non => true
  | .bl _ => true
  | .int _ => true
  | .str _ => true
  | _ => false
def eqV : V → V → Bool
  | .non, .non => true
  | .bl a, .bl b => a == b
  | .bl a, .int b => (if a then 1 else 0) == b
  | .int a, .bl b => a == (if b then 1 else 0)
  | .int a, .int b => a == b
  | .str a, .str b => a == b
  | _, _ => false
theorem eqAt_V {A : Around} {s : Shared} {y x : V} {u v : Value} (ry : RelV y u) (rx : RelV x v) (fy : flatV y = true) (fx : flatV x = true) : SeqAt.EqAt A s u v (eqV y x) := by
  cases y with
  | non =>
    cases ry
    cases x with
    | non => cases rx; exact SeqAt.EqAt.same _
    | bl b => cases rx; exact SeqAt.EqAt.none_bool b
    | int b => obtain ⟨t, rfl⟩ := rx; exact SeqAt.EqAt.none_int b t
    | str b => obtain ⟨t, rfl⟩ := rx; exact SeqAt.EqAt.none_str b t
    | _ => exact absurd (show false = true from fx) Bool.false_ne_true
  | bl a =>
    cases ry
    cases x with
    | non => cases rx; exact SeqAt.EqAt.bool_none a
    | bl b => cases rx; exact SeqAt.EqAt.bool_bool a b
    | int b => obtain ⟨t, rfl⟩ := rx; exact SeqAt.EqAt.bool_int a b t
    | str b => obtain ⟨t, rfl⟩ := rx; exact SeqAt.EqAt.bool_str a b t
    | _ => exact absurd (show false = true from fx) Bool.false_ne_true
  | int a =>
    obtain ⟨t', rfl⟩ := ry
    cases x with
    | non => cases rx; exact SeqAt.EqAt.int_none a t'
    | bl b => cases rx; exact SeqAt.EqAt.int_bool a t' b
    | int b => obtain ⟨t, rfl⟩ := rx; exact SeqAt.EqAt.int_int a t' b t
    | str b => obtain ⟨t, rfl⟩ := rx; exact SeqAt.EqAt.int_str a t' b t
    | _ => exact absurd (show false = true from fx) Bool.false_ne_true
  | str a =>
    obtain ⟨t', rfl⟩ := ry
    cases x with
    | non => cases rx; exact SeqAt.EqAt.str_none a t'
    | bl b => cases rx; exact SeqAt.EqAt.str_bool a t' b
    | int b => obtain ⟨t, rfl⟩ := rx; exact SeqAt.EqAt.str_int a t' b t
    | str b => obtain ⟨t, rfl⟩ := rx; exact SeqAt.EqAt.str_str a t' b t
    | _ => exact absurd (show false = true from fx) Bool.false_ne_true
  | _ => exact absurd (show false = true from fy) Bool.false_ne_true
def eqU (x : V) (u : Value) : Bool := match u with
  | .none => eqV .non x
  | .bool b => eqV (.bl b) x
  | .int i _ => eqV (.int i) x
  | .str z _ => eqV (.str z) x
  | _ => false
theorem eqU_of {x y : V} {u : Value} (r : RelV y u) (f : flatV y = true) : eqU x u = eqV y x := by
  cases y with
  | non => cases r; rfl
  | bl b => cases r; rfl
  | int i => obtain ⟨t, rfl⟩ := r; rfl
  | str z => obtain ⟨t, rfl⟩ := r; rfl
  | _ => exact absurd (show false = true from f) Bool.false_ne_true
theorem any_eqU {x : V} : ∀ {xs : List V} {us : List Value}, Vals xs us → xs.all flatV = true → us.any (eqU x) = xs.any fun y => eqV y x
  | _, _, .nil, _ => rfl
  | y :: xs, u :: us, .cons r t, f => by
    rw [List.all_cons, Bool.and_eq_true] at f
    rw [List.any_cons, List.any_cons, eqU_of r f.1, any_eqU t f.2]
theorem mem_eqAt {A : Around} {s : Shared} {x : V} {v : Value} (rx : RelV x v) (fx : flatV x = true) : ∀ {xs : List V} {us : List Value}, Vals xs us → xs.all flatV = true → ∀ u ∈ us, SeqAt.EqAt A s u v (eqU x u)
  | _, _, .nil, _ => fun u hu => by cases hu
  | y :: xs, u :: us, .cons r t, f => fun u' hu => by
    rw [List.all_cons, Bool.and_eq_true] at f
    rcases List.mem_cons.mp hu with rfl | hu
    · rw [eqU_of r f.1]; exact eqAt_V r rx f.1 fx
    · exact mem_eqAt rx fx t f.2 u' hu
def inV (x : V) (xs : List V) : Bool := xs.any fun y => eqV y x
def rIn (K : PySem.W.Frag) (neg : Bool) : R2 := fun x y H Q => ∃ p xs, y = .ref p ∧ (SqL K H p xs ∨ SqT K H p xs) ∧ flatV x = true ∧ xs.all flatV = true ∧ Q (.bl (if neg then !inV x xs else inV x xs)) H
theorem op_in_seq : OpR X (compareOp .In) (rIn X.K false) := by
  intro pins s σ H x y v u Q I rx ry h
  obtain ⟨p, xs, rfl, hq, fx, fs, q⟩ := h
  cases ry
  rcases hq with hq | hq
  · obtain ⟨its, r, pl, hz⟩ := I.list hq
    refine SeqAt.in_listAt (eqU x) pl.isList (fun w hw => mem_eqAt rx fx r fs w (by simpa using hw)) ⟨.bl _, H, I, rfl, ?_⟩
    rw [show its.toArray.any (eqU x) = its.any (eqU x) by simp, any_eqU r fs]
    exact q
  · obtain ⟨its, r, pl, hz⟩ := I.tuple hq
    refine SeqAt.in_tupleAt (eqU x) pl (fun w hw => mem_eqAt rx fx r fs w (by simpa using hw)) ⟨.bl _, H, I, rfl, ?_⟩
    rw [show its.toArray.any (eqU x) = its.any (eqU x) by simp, any_eqU r fs]
    exact q
theorem op_notIn_seq : OpR X (compareOp .NotIn) (rIn X.K true) := by
  intro pins s σ H x y v u Q I rx ry h
  obtain ⟨p, xs, rfl, hq, fx, fs, q⟩ := h
  cases ry
  rcases hq with hq | hq
  · obtain ⟨its, r, pl, hz⟩ := I.list hq
    refine SeqAt.notIn_listAt (eqU x) pl.isList (fun w hw => mem_eqAt rx fx r fs w (by simpa using hw)) ⟨.bl _, H, I, rfl, ?_⟩
    rw [show its.toArray.any (eqU x) = its.any (eqU x) by simp, any_eqU r fs]
    exact q
  · obtain ⟨its, r, pl, hz⟩ := I.tuple hq
    refine SeqAt.notIn_tupleAt (eqU x) pl (fun w hw => mem_eqAt rx fx r fs w (by simpa using hw)) ⟨.bl _, H, I, rfl, ?_⟩
    rw [show its.toArray.any (eqU x) = its.any (eqU x) by simp, any_eqU r fs]
    exact q
/-! ### len, list(x), tuple(x) of any list or tuple that is read -/
theorem call_len_seq : CallR X (.builtin "len") (fun xs H Q => ∃ p ys, xs = [.ref p] ∧ (SqL X.K H p ys ∨ SqT X.K H p ys) ∧ Q (.int ys.length) H) := by
  intro pins s σ H xs us Q I r h
  obtain ⟨p, ys, rfl, hq, q⟩ := h
  obtain ⟨u, rfl, rx⟩ := vals1 r
  cases rx
  have hn := line63
  rcases hq with hq | hq
  · obtain ⟨its, r', pl, hz⟩ := I.list hq
    have hlen := r'.length
    exact Calls.call_len_list pl.isList (by simp only [List.size_toArray] <;> omega) ⟨.int ys.length, H, I.tok _, ⟨s.toks + 1, by rw [List.size_toArray, hlen]⟩, q⟩
  · obtain ⟨its, r', pl, hz⟩ := I.tuple hq
    have hlen := r'.length
    exact len_tuple pl (by simp only [List.size_toArray] <;> omega) ⟨.int ys.length, H, I.tok _, ⟨s.toks + 1, by rw [List.size_toArray, hlen]⟩, q⟩
theorem call_len_str : CallR X (.builtin "len") (fun xs H Q => ∃ z, xs = [.str z] ∧ z.length ≤ sizeLine ∧ Q (.int z.length) H) := by
  intro pins s σ H xs us Q I r h
  obtain ⟨z, rfl, hz, q⟩ := h
  obtain ⟨u, rfl, t, rfl⟩ := vals1 r
  have hn := line63
  exact len_str (by omega) ⟨.int z.length, H, I.tok _, ⟨_, rfl⟩, q⟩
theorem call_list_of : CallR X (.type "list") (fun xs H Q => ∃ p ys, xs = [.ref p] ∧ (SqL X.K H p ys ∨ SqT X.K H p ys) ∧ ∀ l, H l = none → Q (.ref l) (upd H l (.lst ys))) := by
  intro pins s σ H xs us Q I r h
  obtain ⟨p, ys, rfl, hq, q⟩ := h
  obtain ⟨u, rfl, rx⟩ := vals1 r
  cases rx
  have fin : ∀ (its : List Value), Vals ys its → ys.length ≤ sizeLine → ∀ (h' : Heap) (c' : Nat), (∀ b o', s.heap.get? b = some o' → h'.get? b = some o') →
      h'.get? s.heap.objs.size = some { cls := .type "list", dict := none, data := .seq its.toArray c', slots := #[] } → EP X pins σ Q (.ref s.heap.objs.size) { s with heap := h' } := fun its r' hz h' c' kp e =>
    ⟨.ref s.heap.objs.size, _, I.laid (t' := s.toks) kp (Nat.le_refl _) (show ObjOk X.prog X.w _ h' _ (.lst ys) from ⟨hz, its, c', r', e⟩), rfl, q _ (I.hok.fresh (Nat.le_refl _))⟩
  rcases hq with hq | hq
  · obtain ⟨its, r', pl, hz⟩ := I.list hq
    have hlen := r'.length
    obtain ⟨o, ho, hc, n, hd⟩ := pl.isList
    exact call_list_seq p (.inl rfl) ho hc hd (fun h' c' kp e => fin its r' hz h' c' kp e) (by simp only [List.size_toArray] <;> omega)
  · obtain ⟨its, r', pl, hz⟩ := I.tuple hq
    have hlen := r'.length
    obtain ⟨o, ho, hc, n, hd⟩ := pl
    exact call_list_seq p (.inr rfl) ho hc hd (fun h' c' kp e => fin its r' hz h' c' kp e) (by simp only [List.size_toArray] <;> omega)
/-! ### the call of a builtin's method: o.m(..) -/
def tyV (K : PySem.W.Frag) (T : String) (x : V) (H : Hp) : Prop := match x with
  | .str _ => T = "str"
  | .int _ => T = "int"
  | .ref p => (T = "list" ∧ ∃ xs, SqL K H p xs) ∨ (T = "tuple" ∧ ∃ o, K.lookup p = some o ∧ o.cls = .type "tuple" ∧ o.dict = none) ∨
      (T = "dict" ∧ ((∃ kvs, H p = some (.dK kvs)) ∨ ∃ kvs, H p = some (.dT kvs))) ∨ (T = "set" ∧ ∃ S n, H p = some (.set S n))
  | _ => False
theorem tyV_is {pins : List (Addr × Obj)} {σ : St} {H : Hp} {s : Shared} {T : String} {x : V} {v : Value} (I : Inv X pins σ H s) (r : RelV x v) (ty : tyV X.K T x H) :
    s.TypeIs v T ∧ ∀ a, v = .ref a → ∃ ob, s.heap.get? a = some ob ∧ ob.dict = none := by
  cases x with
  | str z =>
    obtain ⟨t, rfl⟩ := r
    cases (show T = "str" from ty)
    exact ⟨typeIs_str s z t, fun _ e => nomatch e⟩
  | int i =>
    obtain ⟨t, rfl⟩ := r
    cases (show T = "int" from ty)
    exact ⟨typeIs_int s i t, fun _ e => nomatch e⟩
  | ref p =>
    cases r
    rcases ty with ⟨rfl, xs, hq⟩ | ⟨rfl, o, hk, hc, hd⟩ | ⟨rfl, hk⟩ | ⟨rfl, S, n, hk⟩
    · obtain ⟨its, _, pl, _⟩ := I.list hq
      refine ⟨pl.isList.typeIs, fun a e => ?_⟩
      cases e
      obtain ⟨o, n, e, c, hd, _⟩ := pl
      exact ⟨o, e, hd⟩
    · refine ⟨⟨o, I.kIn p o hk, hc⟩, fun a e => ?_⟩
      cases e
      exact ⟨o, I.kIn _ o hk, hd⟩
    · have z : ∃ o, s.heap.get? p = some o ∧ o.ExactDict := by
        rcases hk with ⟨kvs, hk⟩ | ⟨kvs, hk⟩
        · obtain ⟨_, _, _, _, o, _, _, e, ex, _⟩ := I.hok p _ hk
          exact ⟨o, e, ex⟩
        · obtain ⟨_, _, _, _, o, _, _, e, ex, _⟩ := I.hok p _ hk
          exact ⟨o, e, ex⟩
      obtain ⟨o, e, ex⟩ := z
      refine ⟨⟨o, e, ex.1⟩, fun a e2 => ?_⟩
      cases e2
      exact ⟨o, e, ex.2.1⟩
    · obtain ⟨o, _, _, _, e, ex, _⟩ := I.hok p _ hk
      refine ⟨⟨o, e, ex.1⟩, fun a e2 => ?_⟩
      cases e2
      exact ⟨o, e, ex.2.1⟩
  | _ => exact False.elim ty
def tBM (K : PySem.W.Frag) (T : String) (r : V → List V → Hp → VK → Prop) (to : TE) (t : TA) : TE := fun σ H Q => to σ H fun x H1 => tyV K T x H1 ∧ t σ H1 fun xs H2 => r x xs H2 Q
variable {o e : Expr} {es : List Expr} {to : TE} {t : TA} {name : Str} {apos cpos : Pos} {T id : String} {r : V → List V → Hp → VK → Prop}
theorem pe_bm (pa : PlainAttrs T) (slot : Slot T name id) (hty : typeOf (.builtin id) = pure (.type "method_descriptor")) (hm : MtR X id r) (ho : PE X o to) (ha : PA X (e :: es) t)
    (hbase : attributeBase o name X.env (eval o X.env) = eval o X.env := by rfl)
    (hfew : ((backTo cpos (starEach (e :: es) X.env)).all (fun x => !x.1) && (backToKw cpos (keywordEach [] X.env)).all (fun x => x.1.isSome)
      && decide ((e :: es).length + ([] : List Keyword).length + (if ([] : List Keyword).isEmpty then 0 else 1) < 30)) = true := by rfl)
    (hline : (apos.endLine == cpos.line) = true := by rfl) (hs : starEach (e :: es) X.env = (false, eval e X.env) :: starEach es X.env := by rfl) (hplain : (backTo cpos (starEach es X.env)).any (·.1) = false := by rfl) :
    PE X (.Call (.Attribute o name apos) (e :: es) [] cpos) (tBM X.K T r to t) := by
  intro pins s σ H Q I h
  refine wpAny_Call_method_late hbase hfew hline rfl (thn (ho pins s σ H _ I h) fun v s1 ⟨x, H1, I1, r1, ty, q1⟩ => ?_)
  obtain ⟨h1, h2⟩ := tyV_is I1 r1 ty
  refine ⟨T, id, pa, slot, hty, h1, h2, ?_⟩
  have hA := ha cpos pins s1 σ H1 _ I1 q1
  rw [hs] at hA ⊢
  refine Calls.callWith_builtin (by show (false || (backTo cpos (starEach es X.env)).any (·.1)) = false; rw [hplain] <;> rfl) (Calls.evalArgs_plain ?_)
  exact thn hA fun us s2 ⟨vs, H2, I2, r2, q2⟩ => hm pins s2 σ H2 x vs v us Q I2 r1 r2 q2
/- xs.append(e), list.index on a module's tuple .. are MtR facts of 06m -/
end
end L2

namespace L2
open PySem PySem.Spec PyProof.Rows

def MtM (X : Cx) (id : String) (r : V → List V → Hp → VK → Prop) : Prop :=
  ∀ (pins : List (Addr × Obj)) (s : Shared) (σ : St) (H : Hp) (x : V) (xs : List V) (v : Value) (us : List Value) (Q : VK), Inv X pins σ H s → RelV x v → Vals xs us → r x xs H Q →
    wpAny (model X.prog X.w) X.A (call (.builtin id) (v :: us)) (EP X pins σ Q) X.xe s

/-! ### lists of values -/
theorem Vals.one : ∀ {x : V} {us : List Value}, Vals [x] us → ∃ u, us = [u] ∧ RelV x u
  | _, _, .cons r .nil => ⟨_, rfl, r⟩
section
variable {X : Cx} {pins : List (Addr × Obj)} {σ : St} {H : Hp} {s : Shared} {l b : Addr} {xs ys zs : List V}

/-! ### the two steps: a tracked list is rewritten, a new list is laid -/
theorem Inv.lset {its its' : List Value} {n : Nat} {f : Array Value → Array Value} {t' : Nat} (I : Inv X pins σ H s) (hH : H l = some (.lst xs))
    (e : s.heap.get? l = some { cls := .type "list", data := .seq its.toArray n }) (hf : f its.toArray = its'.toArray) (hv : Vals ys its') (hz : ys.length ≤ sizeLine) :
    Inv X pins σ (upd H l (.lst ys)) { s with heap := s.heap.update l (Obj.mapSeq f), toks := t' } := by
  have q := PySem.IsL.update e f
  rw [hf] at q
  refine I.write (x := l) (e := l) (by rw [hH]; exact trivial) (.inl rfl) (fun b' u hb hu => (Heap.get?_update_other s.heap (Obj.mapSeq f) (Ne.symm hb)).trans hu) ⟨_, q⟩ ?_
  exact ⟨hz, its', _, hv, q⟩
theorem Inv.lnew {its : List Value} {t' : Nat} (I : Inv X pins σ H s) (hv : Vals ys its) (hz : ys.length ≤ sizeLine) :
    Inv X pins σ (upd H s.heap.objs.size (.lst ys)) { s with heap := s.heap.push { cls := .type "list", data := .seq its.toArray }, toks := t' } :=
  I.laid (fun _ _ q => Heap.get?_push_of_some _ q) (Nat.le_refl _) ⟨hz, its, 0, hv, Heap.get?_push_size _ rfl⟩
theorem Inv.fresh (I : Inv X pins σ H s) : H s.heap.objs.size = none := I.hok.fresh (Nat.le_refl _)
theorem Inv.lstM (I : Inv X pins σ H s) (hH : H l = some (.lst xs)) : xs.length ≤ sizeLine ∧ ∃ (its : List Value) (n : Nat), Vals xs its ∧ xs.length = its.length ∧ s.heap.get? l = some { cls := .type "list", data := .seq its.toArray n } := by
  obtain ⟨z, its, n, r, e⟩ := I.hok l _ hH
  exact ⟨z, its, n, r, r.length, e⟩

end

section
variable {X : Cx}

/-! ### methods -/
def rAppend : V → List V → Hp → VK → Prop := fun x vs H Q => ∃ l xs y, x = .ref l ∧ vs = [y] ∧ H l = some (.lst xs) ∧ xs.length < sizeLine ∧ Q .non (upd H l (.lst (xs ++ [y])))
theorem mt_append : MtM X "list.append" rAppend := by
  intro pins s σ H x vs v us Q I rx rv h
  obtain ⟨l, xs, y, rfl, rfl, hH, hz, q⟩ := h
  cases rx
  obtain ⟨u, rfl, ru⟩ := rv.one
  obtain ⟨z, its, n, r, hl, e⟩ := I.lstM hH
  refine call_meets F.slot_list_append ⟨_, e, rfl⟩ F.entry_list_append (F.args_list_append_2 _ _) (PySem.list_append l its.toArray n u (by rw [List.size_toArray]; omega)) ⟨e, ?_⟩
  refine ⟨.non, _, I.lset (its' := its ++ [u]) hH e (by simp) (r.append (.cons ru .nil)) ?_, rfl, q⟩
  rw [List.length_append, List.length_singleton]
  omega

/-! ### list + list, list += list, list * int -/
def rCat : R2 := fun x y H Q => ∃ l b xs zs, x = .ref l ∧ y = .ref b ∧ H l = some (.lst xs) ∧ H b = some (.lst zs) ∧ xs.length + zs.length ≤ sizeLine ∧ ∀ p, H p = none → Q (.ref p) (upd H p (.lst (xs ++ zs)))
theorem op_cat : OpR X (binaryOp .Add) rCat := by
  intro pins s σ H x y v u Q I rx ry h
  obtain ⟨l, b, xs, zs, rfl, rfl, hH, hB, hz, q⟩ := h
  cases rx
  cases ry
  obtain ⟨z, its, n, r, hl, e⟩ := I.lstM hH
  obtain ⟨z2, its2, n2, r2, hl2, e2⟩ := I.lstM hB
  refine PySem.P.add_list e e2 ?_ (by rw [List.size_toArray, List.size_toArray]; omega)
  have ea : its.toArray ++ its2.toArray = (its ++ its2).toArray := by simp
  rw [ea]
  exact ⟨.ref _, _, I.lnew (t' := s.toks) (r.append r2) (by rw [List.length_append]; omega), rfl, q _ I.fresh⟩
/-! ### del xs[i] -/
end

/-! ### xs[a:b] = ys -/
section
variable {prog : Program} {w : World} {A : Around} {E : Value → Shared → Prop} {s : Shared}
end

section
variable {X : Cx}
end
end L2

namespace Att
open PySem PySem.W PySem.Calls PyProof.Rows

/-! ### the script -/
theorem ints_of_wellAll {P : Params} {h : Heap} : ∀ (ns : List Int) (vs : List Value), WellAll P h vs (ns.map WData.int) → IntsAre vs ns := by
  intro ns
  induction ns with
  | nil =>
    intro vs w
    rw [List.map_nil] at w
    cases w
    exact .nil
  | cons n ns ih =>
    intro vs w
    rw [List.map_cons] at w
    cases w with
    | cons a b =>
      cases a
      exact .cons _ _ (ih _ b)

theorem script_of {l : OpenLaw} {n : Nat} (hn : l.most = some n) {P : Params} {h : Heap} {args : List WData} {vals : List Value}
    (hpre : l.row.toRowW.claim.pre args = true) (hwl : WellAll P h vals args) :
    ∃ a vs ns, vals = [Value.ref a] ∧ args = [WData.list (ns.map WData.int)] ∧ h.get? a = some { cls := .type "list", data := .seq vs.toArray } ∧ IntsAre vs ns ∧ ns.length ≤ n := by
  have hsh : WShape.hasAll [] args [.list .int] = true := (pre_splitW hpre).1
  have hc : l.pre.holds [] { args := args } = true := (pre_splitW hpre).2
  obtain ⟨d, r, rfl, h1, h2⟩ := hasAllW_cons hsh
  obtain rfl := hasAllW_nil h2
  obtain ⟨xs, rfl, h3⟩ := hasW_list h1
  obtain ⟨ns, rfl⟩ := items_int h3
  have hlen : ns.length ≤ n := by
    unfold OpenLaw.pre at hc
    have h4 : (WTm.not (.lt (.lit (.int (n : Int))) (.len (.arg 0)))).holds [] { args := [.list (ns.map .int)] } = true := by
      have h4 := (holds_andW hc).1
      rw [hn] at h4
      exact h4
    have h5 := condW_of h4 (w_not (w_lt w_lit (w_len_list (w_arg rfl))))
    rw [List.length_map] at h5
    refine Nat.le_of_not_lt fun q => ?_
    have q' : (n : Int) < ((ns.length : Nat) : Int) := by omega
    first
      | (rw [decide_eq_true q'] at h5; exact absurd h5 (by decide))
      | (simp at h5; omega)
  cases hwl with
  | cons w1 w2 =>
    cases w2
    cases w1 with
    | list ho hall => exact ⟨_, _, ns, rfl, rfl, ho, ints_of_wellAll ns _ hall, hlen⟩

theorem post_true (l : OpenLaw) (args : List WData) : l.row.toRowW.claim.post args (.bool true) args = true :=
  postW_of (r := l.row.toRowW) (X := (true == true))
    (show WShape.has [] (.bool true) .bool = true by first | rfl | decide | simp [WShape.has, WShape.arms, WShape.armsAll])
    (show (WTm.eq .res (.lit (.bool true))).value [] { args := args, res := some (.bool true), after := args } = some (.bool (true == true)) from w_eq_bool (w_res rfl) w_lit) rfl

/-! ### the attachment: holds_open's last premise (the goal 'hc' behind k_head) from a wpAny of the law's body -/
theorem attach_call {l : OpenLaw} {n : Nat} {q : Program} {loose : List Str} {XP : (Str → Option Value) → Heap → Prop} {YP : World → Heap → Prop} {d : DefRec}
    (hn : l.most = some n) (hdf : d.params.defaults = [])
    (call : ∀ (w : World) (s₀ s₁ : Shared) (mg mb : Str → Option Value) (fa : Addr) (o : Obj) (pm cd doc : Value) (a : Addr) (vs : List Value) (ns : List Int),
      Ground q loose [] XP w s₀ mg mb s₁.heap → YP w s₁.heap →
      s₁.heap.get? fa = some o → o.data = .func (docDef d.name d.params d.body d.scope pm cd doc) → s₁.heap.CodeRec cd d.name → mg d.name = some (.ref fa) →
      s₁.heap.get? a = some { cls := .type "list", data := .seq vs.toArray } → IntsAre vs ns → ns.length ≤ n → s₁.gens = #[] →
      codeAny (model l.prog w) callerA (.call (.ref fa) ⟨[.ref a], []⟩) (fun r s' => r = .ok (.ret (.bool true)) ∧ OldK s₁.heap s'.heap ∧ s'.os = s₁.os ∧ AllBare s'.gens) s₁) :
    WalkO q loose XP YP l.row.toRowW d [] (fun f vs => PySem.call f vs) := by
  intro w s₀ s₁ mg mb G Y fa o pm cd doc dV kV ho hd hcd hD hmg hg args vals as hpre hlay hrd hwl hlo
  obtain rfl : dV = .none := Dflts.none hD hdf
  obtain rfl : kV = .none := Dflts.noKw hD
  obtain ⟨a, vs, ns, rfl, rfl, hobj, hints, hlen⟩ := script_of hn hpre hwl
  refine enter_call (codeAny_mono (call w s₀ s₁ mg mb fa o pm cd doc a vs ns G Y ho (fd_plain hd) hcd hmg hobj hints hlen hg) fun r s' hq => ?_)
  obtain ⟨rfl, h2, h3, h4⟩ := hq
  exact ⟨.inl ⟨.bool true, .bool true, [], rfl, fun _ => rfl, .bool true, post_true l _, fun _ => ⟨List.Pairwise.nil, fun _ hm => (nomatch hm)⟩⟩, h2, h3, h4⟩

/-! ### rules over ANY heap (no ledger) from facts about the written part K: the library's own take a ledger (News) for what they write -/
section
variable {prog : Program} {w : World} {A : Around} {E : Value → Shared → Prop} {s : Shared} {K : Frag}

/-! the whole heap as the ledger: makes every rule that writes through a ledger a rule over any heap -/
def ledger (h : Heap) (L d : Addr) : List (Addr × Obj) := (List.range h.objs.size).filterMap fun a => if a = L ∨ a = d then none else (h.get? a).map fun o => (a, o)
end
end Att

namespace L2
open PySem PySem.Spec PyProof.Rows

theorem vals_ints : ∀ {vs : List Value} {ns : List Int}, IntsAre vs ns → Vals (ns.map V.int) vs
  | _, _, .nil => .nil
  | _, _, .cons n t h => .cons ⟨t, rfl⟩ (vals_ints h)

def Only (H : Hp) : Prop := ∀ b, H b = none ∨ ∃ o xs, H b = some (.frz o (.lst xs))

theorem law_call {P : Program} {w : World} {K : PySem.W.Frag} {mg mb : Str → Option Value} {CX : CXT} {k : Nat} {fa a : Addr} {fd : FuncData} {x : Str} {sp : Sp} {s₁ : Shared} {vs : List Value} {ns : List Int}
    (KX : K.In s₁.heap) (hns : s₁.heap.Ns mainGlobals mg) (hb : s₁.heap.Ns builtinsNs mb) (hbb : ∀ x : Str, x ≠ "__name__" → mb x = bootBuiltins x) (hlim : s₁.heap.NoLimit) (hg : s₁.gens = #[])
    (ha : s₁.heap.get? a = some { cls := .type "list", data := .seq vs.toArray }) (hi : IntsAre vs ns) (hl : ns.length ≤ sizeLine) (hr : Room k callerA)
    (F : ∀ base : Heap, K.In base → base.Ns mainGlobals mg → FnOk P w K mg base CX k fa fd [x] sp) (hbind : ∀ (s : Shared) (u : Value), BindsTo s fd ⟨[u], []⟩ [(x, u)])
    (hsp : ∀ H : Hp, Only H → SqL K H a (ns.map V.int) → sp [.ref a] H (fun v _ => v = .bl true) fun _ _ _ => False)
    (hCX : ∀ H e s', CX [] H s₁ (fun _ _ _ => False) e s' → False) :
    codeAny (model P w) callerA (.call (.ref fa) ⟨[.ref a], []⟩) (fun r s' => r = .ok (.ret (.bool true)) ∧ OldK s₁.heap s'.heap ∧ s'.os = s₁.os ∧ AllBare s'.gens) s₁ := by
  have rv := vals_ints hi
  have lenV := hi.length
  -- from an abstract heap in which nothing but the script may be tracked
  have core : ∀ H : Hp, Only H → SqL K H a (ns.map V.int) → HOk P w H s₁.heap → (∀ b, H b ≠ none → b = a) → (H a ≠ none → K.lookup a = none) →
      codeAny (model P w) callerA (.call (.ref fa) ⟨[.ref a], []⟩) (fun r s' => r = .ok (.ret (.bool true)) ∧ OldK s₁.heap s'.heap ∧ s'.os = s₁.os ∧ AllBare s'.gens) s₁ := by
    intro H hO hS hok hA hK
    have base_of : ∀ {b : Addr} {o : Obj}, s₁.heap.get? b = some o → H b = none → (hidT s₁.heap H).get? b = some o := fun e n => hidT_get e n
    have noA : ∀ {b : Addr} {o : Obj} {es : Array DictEntry} {ep : Nat}, s₁.heap.get? b = some o → o.data = .dict es ep → H b = none := fun {b o es ep} e d => by
      cases q : H b with
      | none => rfl
      | some u =>
        have e' : b = a := hA b (by rw [q]; simp)
        subst e'
        rw [ha] at e; cases e
        have d' : Data.seq vs.toArray _ = Data.dict es ep := d
        cases d'
    have nsK : ∀ {b : Addr} {m : Str → Option Value}, s₁.heap.Ns b m → (hidT s₁.heap H).Ns b m := fun {b m} ⟨o, es, ep, e, d, r⟩ => ⟨o, es, ep, base_of e (noA e d), d, r⟩
    have hKb : K.In (hidT s₁.heap H) := fun b o e => base_of (KX b o e) (by
      cases q : H b with
      | none => rfl
      | some u =>
        have e' : b = a := hA b (by rw [q]; simp)
        subst e'
        rw [hK (by rw [q]; simp)] at e; cases e)
    have hM : Mod K mg (hidT s₁.heap H) := ⟨hKb, nsK hns, ⟨mb, nsK hb, hbb⟩, let ⟨mc, h1, h2⟩ := hlim; ⟨mc, nsK h1, h2⟩⟩
    have e0 : Env0 P w K mg (hidT s₁.heap H) callerA [] s₁ H := ⟨rfl, hM, fun b o e => of_hidT e, Nat.le_of_eq (hidT_size _ _), trivial, fun b hb => absurd (show b ∈ ([] : List Addr) from hb) (by simp), hok, .of_eq hg⟩
    refine codeAny_mono ((F _ hKb (nsK hns)).run callerA [] s₁ H ⟨[.ref a], []⟩ [.ref a] [.ref a] _ _ hr e0 (hbind s₁ (.ref a)) (.cons rfl .nil) (hsp H hO hS)) fun r s' h => ?_
    cases r with
    | error e => exact (hCX H e s' h).elim
    | ok fl =>
      cases fl with
      | next => exact False.elim h
      | brk => exact False.elim h
      | cont => exact False.elim h
      | ret u =>
        obtain ⟨v, H', os, bare, un, hok', r', q⟩ := h
        have q' : v = .bl true := q
        subst q'
        obtain rfl : u = Value.bool true := r'
        refine ⟨rfl, OldK.of_keep fun b o e => ?_, os, bare⟩
        cases q : H b with
        | none => exact un.keep b o e q (by intro z; exact absurd (show b ∈ ([] : List Addr) from z) (by simp)) (by simp)
        | some u =>
          rcases hO b with z | ⟨ob, xs, z⟩
          · rw [q] at z; cases z
          · have z2 := un.frzs b ob _ z
            obtain ⟨e1, _⟩ := hok b _ z
            obtain ⟨e2, _⟩ := hok' b _ z2
            rw [e] at e1; cases e1
            exact e2
  cases hk : K.lookup a with
  | some o =>
    -- the script is one of the module's own objects
    have e := KX a o hk
    rw [ha] at e
    cases e
    refine core (fun _ => none) (fun _ => .inl rfl) (.inr ⟨_, vs.toArray, _, hk, rfl, rfl, rfl, by rw [List.size_toArray, lenV]; exact hl, by simpa using rv⟩) (fun b u z => by have z' : (none : Option HO) = some u := z; cases z') (fun b z => absurd rfl z) fun z => absurd rfl z
  | none =>
    refine core (fun b => if b = a then some (.frz { cls := .type "list", data := .seq vs.toArray } (.lst (ns.map V.int))) else none) (fun b => ?_) (.inl (.inr ⟨{ cls := .type "list", data := .seq vs.toArray }, if_pos rfl⟩)) (fun b u z => ?_) (fun b z => ?_) fun _ => hk
    · by_cases hb : b = a
      · exact .inr ⟨_, _, if_pos hb⟩
      · exact .inl (if_neg hb)
    · by_cases hb : b = a
      · have z' := (if_pos hb).symm.trans z
        cases z'
        subst hb
        exact ⟨ha, by rw [List.length_map]; exact hl, vs, _, rv, ha⟩
      · have z' := (if_neg hb).symm.trans z
        cases z'
    · by_cases hb : b = a
      · exact hb
      · exact absurd (if_neg hb) z
end L2

namespace L2
open PySem PySem.Spec PyProof.Rows

abbrev KOf {K : PySem.W.Frag} {h : Heap} (_ : K.In h) : PySem.W.Frag := K

theorem walk_of {l : PySem.W.OpenLaw} {n k : Nat} {q : Program} {loose : List Str} {XP : (Str → Option Value) → Heap → Prop} {YP : World → Heap → Prop} {d : DefRec} {K : Params → PySem.W.Frag} {CX : World → CXT} {sp : World → Sp} {x : Str}
    (hn : l.most = some n) (hn2 : n ≤ sizeLine) (hdf : d.params.defaults = []) (hr : Room k callerA)
    (hY : ∀ (w : World) (h : Heap), YP w h → (K w.params).In h)
    (F : ∀ (w : World) (mg : Str → Option Value) (fa : Addr) (h : Heap), (K w.params).In h → h.Ns mainGlobals mg → mg d.name = some (.ref fa) →
      ∃ fd : FuncData, (∀ (s : Shared) (u : Value), BindsTo s fd ⟨[u], []⟩ [(x, u)]) ∧
        ∀ base : Heap, (K w.params).In base → base.Ns mainGlobals mg → FnOk l.prog w (K w.params) mg base (CX w) k fa fd [x] (sp w))
    (hsp : ∀ (w : World) (H : Hp) (a : Addr) (ns : List Int), ns.length ≤ n → Only H → SqL (K w.params) H a (ns.map V.int) → sp w [.ref a] H (fun v _ => v = .bl true) fun _ _ _ => False)
    (hCX : ∀ (w : World) (H : Hp) (s : Shared) (e : Value) (s' : Shared), CX w [] H s (fun _ _ _ => False) e s' → False) :
    PySem.W.WalkO q loose XP YP l.row.toRowW d [] (fun f vs => PySem.call f vs) := by
  refine Att.attach_call hn hdf fun w s₀ s₁ mg mb fa o pm cd doc a vs ns G Y ho hd hcd hmg hobj hints hlen hg => ?_
  have KX := hY w _ Y
  obtain ⟨fd, hb, hF⟩ := F w mg fa _ KX G.T.g hmg
  exact law_call KX G.T.g G.T.b G.T.builtins G.T.nolimit hg hobj hints (Nat.le_trans hlen hn2) hr hF hb (fun H hO hS => hsp w H a ns hlen hO hS) fun H e s' => hCX w H s₁ e s'
end L2

/- THE LAST THEOREM (shape; LID, My.* are yours):
   My.Adr: a structure of the addresses that your layer names (classes, functions); My.Txt K t: a structure (Prop) of the equations over K;
   My.txt_mk : {K} {implicit addresses ..} (e1 : nsIn K mainGlobals "law" = some (some (.ref f))) (e2 : K.lookup f = some ⟨oc, od, .func (fnOf "law" "law" params body scope dV kV doc pm an cdv ct), sl⟩) (e3 : codeIn K cdv "law" = true) .. : ∃ t, My.Txt K t

set_option maxRecDepth 100000 in
set_option maxHeartbeats 0 in
theorem PySem.Challenge.cw_LID_holds : PySem.Challenge.rw_LID.Holds := by
  w_on; o_law; k_head; (case hw => w_witness2)
  k_fill
  refine L2.walk_of (l := PySem.Challenge.rw_LID) (n := 63) (k := 40) (x := "script") (CX := fun w => ..) (sp := fun _ => My.sp_law) rfl (by decide) rfl ⟨rfl, by decide, by decide⟩ (fun w h Y => PySem.W.kIn_of Y) ?F ?S ?C
  case F =>
    intro w mg fa h KX G hmg
    have T : ∃ t, My.Txt (L2.KOf KX) t := by
      dsimp only [L2.KOf]                          -- K must stand as «<heap const> w.params» for k_is
      refine' My.txt_mk ?e1 ?e2 ?e3 ..
      (case e1 => PySem.W.k_is)                    -- in the order: a name -> its address -> its object -> its parts
      (case e2 => PySem.W.k_is)
      ..
    obtain ⟨t, T⟩ := T
    have e0 := hmg.symm.trans (PySem.W.mg_of KX G T.law)
    cases e0                                       -- fa is the law's own address
    exact ⟨_, fun s u => .of_eq rfl, fun base kb nb => My.law_fn T kb nb⟩     -- if «.of_eq rfl» comes too early: refine' ⟨_, ?b, fun base kb nb => My.law_fn T kb nb⟩; exact fun s u => .of_eq rfl
  case S => exact fun w H a ns hl hO hS => ..
  case C => exact ..
(the tactic k_is has no namespace: write k_is) -/

/-! SHORT WORDS over the layer: a def of the text, its body, what a loop and a test want. -/
namespace L2
open PySem PySem.Spec PyProof.Rows

/-! ### the text by places -/
def defArgs (s : Stmt) : Arguments := match s with
  | .FunctionDef _ a _ _ _ _ _ _ _ _ => a
  | _ => { posonlyargs := [], args := [], vararg := none, kwonlyargs := [], kw_defaults := [], kwarg := none, defaults := [] }
def defBody (s : Stmt) : List Stmt := match s with
  | .FunctionDef _ _ b _ _ _ _ _ _ _ => b
  | _ => []
def defScope (s : Stmt) : Scope := match s with
  | .FunctionDef _ _ _ _ _ _ sc _ _ _ => sc
  | _ => { kind := .function, names := [], isGenerator := false, isCoroutine := false }

/-! ### no exception leaves a def -/
abbrev CX0 : CXT := fun _ _ _ _ _ _ => False
abbrev E0 : XK := fun _ _ _ => False
theorem pass0 {X : Cx} : Passes CX0 X E0 := fun _ _ _ _ _ _ _ h => h.elim

/-! ### a def (or method) of the text as it stands behind the top -/
structure Fun (K : PySem.W.Frag) (x qual : Str) (st : Stmt) (f : Addr) (fd : FuncData) : Prop where
  ex : ∃ (oc : Value) (od : Option Addr) (kV doc pm : Value) (an : Option Addr) (cdv ct : Value) (osl : Array (Option Value)),
    fd = PySem.W.fnOf x qual (defArgs st) (defBody st) (defScope st) .none kV doc pm an cdv ct ∧ K.lookup f = some ⟨oc, od, .func fd, osl⟩ ∧ PySem.W.codeIn K cdv qual = true
  kp : PySem.W.keepIn K (.ref f) = true
section
variable {P : Program} {w : World} {K : PySem.W.Frag} {mg : Str → Option Value} {base : Heap}
theorem Fun.ok {x qual : Str} {st : Stmt} {f : Addr} {fd : FuncData} {N ps : List Str} {k : Nat} {sp : Sp} (F : Fun K x qual st f fd) (S : FnScope N ps (defScope st)) (len : ∀ vs H Q E, sp vs H Q E → vs.length = ps.length)
    (hbody : ∀ (cdv : Value) (A : Around) (outer : List Env) (s : Shared) (H : Hp) (vs : List V) (Q : VK) (E : XK), Room k (A.deeper (envOfC qual (defScope st) s.heap.objs.size f cdv)) → sp vs H Q E →
      ∃ t, PSs (cxOf CX0 P w K mg base N qual (defScope st) f cdv A outer s H E).nox (defBody st) t ∧ t { nx := fun _ H' => Q .non H', rt := Q } (start N vs) H) : FnOk P w K mg base CX0 (k + 1) f fd ps sp := by
  obtain ⟨oc, od, kV, doc, pm, an, cdv, ct, osl, rfl, lk, hcd⟩ := F.ex
  refine fn_of lk hcd S len fun A outer s H vs Q E hr hsp => ?_
  obtain ⟨t, h, q⟩ := hbody cdv A outer s H vs Q E hr hsp
  exact ⟨t, h.nox, q⟩
theorem Fun.binds {x qual : Str} {st : Stmt} {f : Addr} {fd : FuncData} {ps : List Str} (F : Fun K x qual st f fd)
    (h : ∀ (kV doc pm : Value) (an : Option Addr) (cdv ct : Value) (us : List Value), us.length = ps.length → bindArgs (PySem.W.fnOf x qual (defArgs st) (defBody st) (defScope st) .none kV doc pm an cdv ct) ⟨us, []⟩ = pure (ps.zip us)) : Binds K fd ps [] := by
  obtain ⟨oc, od, kV, doc, pm, an, cdv, ct, osl, rfl, lk, hcd⟩ := F.ex
  exact .all (h kV doc pm an cdv ct)
theorem fun_mk {x qual : Str} {st : Stmt} {f : Addr} {oc : Value} {od an : Option Addr} {osl : Array (Option Value)} {kV doc pm cdv ct : Value} (l : K.lookup f = some ⟨oc, od, .func (PySem.W.fnOf x qual (defArgs st) (defBody st) (defScope st) .none kV doc pm an cdv ct), osl⟩)
    (c : PySem.W.codeIn K cdv qual = true) (k : PySem.W.keepIn K (.ref f) = true) : Fun K x qual st f (PySem.W.fnOf x qual (defArgs st) (defBody st) (defScope st) .none kV doc pm an cdv ct) := ⟨⟨oc, od, kV, doc, pm, an, cdv, ct, osl, rfl, l, c⟩, k⟩
end
theorem hu_of {A : Around} {k : Nat} (hr : Room k A) : A.units + 1 < cLine := Nat.lt_of_le_of_lt (Nat.add_le_add_left (by decide : 1 ≤ 64) _) hr.units
/-! ### expressions in short: the name that stands in the i-th slot -/
section
variable {X : Cx}
theorem pv (i : Nat) {x : Str} {pos : Pos} (hN : X.N[i]? = some x := by rfl) (hv : Vis X.env.scope x := by first | exact Or.inl rfl | exact Or.inr (Or.inl rfl) | exact Or.inr (Or.inr rfl)) (hd : (x == ("__debug__" : Str)) = false := by decide)
    (hcd : (x == ("__classdict__" : Str)) = false := by decide) : PE X (.Name x pos) (tVar i) := pe_var hN hv hd hcd
end

/-! ### tests -/
theorem iteF {A B : Prop} (h : B) : if false = true then A else B := by
  rw [if_neg Bool.false_ne_true]
  exact h
theorem iteT {A B : Prop} (h : A) : if true = true then A else B := by
  rw [if_pos rfl]
  exact h
/-! ### heaps -/
def Same (H H' : Hp) : Prop := ∀ b o, H b = some o → H' b = some o
theorem Same.refl (H : Hp) : Same H H := fun _ _ h => h
theorem Same.trans {H H1 H2 : Hp} (a : Same H H1) (b : Same H1 H2) : Same H H2 := fun c o h => b c o (a c o h)
theorem Same.free {H H' : Hp} (e : Same H H') {l : Addr} (h : H' l = Option.none) : H l = Option.none := by
  cases q : H l with
  | none => rfl
  | some o =>
    rw [e l o q] at h
    cases h
theorem Same.seq {K : PySem.W.Frag} {H H' : Hp} {a : Addr} {xs : List V} (e : Same H H') (h : SqL K H a xs) : SqL K H' a xs := by
  rcases h with (h | ⟨o, h⟩) | h
  · exact .inl (.inl (e _ _ h))
  · exact .inl (.inr ⟨o, e _ _ h⟩)
  · exact .inr h

end L2

/-! the head of a row in one go: the text's top is run by the kernel as one equation, with no state written out in between. -/
namespace Hd
open PySem PySem.W PySem.Calls PyProof.Rows

def bt : Nat → Nat → Nat → List Obj → BT
  | 0, _, _, _ => .nil
  | f + 1, a, b, l => match l[b]? with
    | none => .nil
    | some o => .node o (bt f (2 * a) (a + b) l) (bt f (2 * a) (2 * a + b) l)
theorem bt_get : ∀ (f a b : Nat) (l : List Obj) (i : Nat), 0 < a → i < f → (bt f a b l).get i = l[b + a * i]?
  | 0, _, _, _, _, _, h => absurd h (Nat.not_lt_zero _)
  | f + 1, a, b, l, i, ha, hi => by
    unfold bt
    cases e : l[b]? with
    | none =>
      have h1 : l.length ≤ b := List.getElem?_eq_none_iff.mp e
      have h2 : b ≤ b + a * i := Nat.le_add_right _ _
      rw [List.getElem?_eq_none (by omega)]
      rfl
    | some o =>
      show (BT.node o _ _).get i = _
      rw [BT.get_node]
      by_cases h0 : i = 0
      · subst h0; rw [if_pos rfl, Nat.mul_zero, Nat.add_zero, e]
      · rw [if_neg h0]
        by_cases h1 : i % 2 = 1
        · rw [if_pos h1, bt_get f (2 * a) (a + b) l (i / 2) (by omega) (by omega)]
          congr 1
          have e2 : i = 2 * (i / 2) + 1 := by omega
          calc a + b + 2 * a * (i / 2) = b + a * (2 * (i / 2) + 1) := by rw [Nat.mul_add, Nat.mul_one, ← Nat.mul_assoc, Nat.mul_comm a 2]; omega
            _ = b + a * i := by rw [← e2]
        · rw [if_neg h1, bt_get f (2 * a) (2 * a + b) l (i / 2 - 1) (by omega) (by omega)]
          congr 1
          have e2 : i = 2 * ((i / 2 - 1) + 1) := by omega
          calc 2 * a + b + 2 * a * (i / 2 - 1) = b + a * (2 * ((i / 2 - 1) + 1)) := by rw [← Nat.mul_assoc, Nat.mul_comm a 2, Nat.mul_add, Nat.mul_one]; omega
            _ = b + a * i := by rw [← e2]
def toT (n : Nat) (s : Shared) : SharedT := ⟨bt n 1 0 s.heap.objs.toList, n, s.heap.life, s.gens, s.drawn, s.toks, s.os⟩
theorem toT_abs {n : Nat} {s : Shared} (h : s.heap.objs.size = n) : (toT n s).abs = s := by
  obtain ⟨⟨objs, life⟩, g, d, k, os⟩ := s
  have e : absHeap (bt n 1 0 objs.toList) n life = ⟨objs, life⟩ := by
    have q : (absHeap (bt n 1 0 objs.toList) n life).objs = objs := by
      apply Array.ext_getElem?
      intro i
      rw [absHeap_at]
      by_cases hi : i < n
      · rw [if_pos hi, bt_get n 1 0 _ i (by decide) hi, Nat.zero_add, Nat.one_mul]
        have : i < objs.size := by rw [h]; exact hi
        simp [this]
      · rw [if_neg hi]
        exact (Array.getElem?_eq_none (by rw [h]; omega)).symm
    show Heap.mk (absHeap (bt n 1 0 objs.toList) n life).objs life = _
    rw [q]
  show Shared.mk (absHeap (bt n 1 0 objs.toList) n life) g d k os = _
  rw [e]

abbrev body (p : Program) (env : Env) : Code := .body (behindTheImports p) env
abbrev base (fp : Pos) : List Frame := [topFrame fp]

def look {α : Type} (p q : Program) (loose : List Str) (Xt : Shared → Bool) (Yf : Shared → α) (H₀ : Heap) (s : Shared) :=
  ((staticsOk (importedModules p.main.body) H₀ s.heap && namesBound p s.heap && gensDone s && laidKept H₀ s.heap), openSeen q loose (importedModules p.main.body) Xt true s, Yf s)

theorem left_of {p q : Program} {loose : List Str} {Xt : Shared → Bool} {α : Type} {Yf : Shared → α} {Ya : World → α} {N m₀ k1 k2 k3 k4 n₁ : Nat} {ann : Option Value} {env : Env} {fp p1 p2 p3 : Pos}
    (e0 : opening p = plainProg p.main.scope.names) (hN : Nat.ble 600 N = true) (f0 : ∀ s, fenceModules? p s = some s)
    (size : ∀ w : World, ((boot_heap w.params).isNs mainGlobals && (Array.mk ([] : List GenState)).size == 0, (boot_heap w.params).objs.size, (boot_heap w.params).nsMap mainGlobals "__annotations__") = (true, m₀, ann))
    (le : Nat.ble (k1 + (k2 + (k3 + k4))) N = true)
    (h : ∀ w : World, (fun os => (topGo treeTable p w m₀ ann k1 ⟨boot_heap w.params, Array.mk [], boot_drawn, boot_toks, os⟩ (topStub p)).map fun r => (r.2,
        (segRun treeTable p w m₀ ann 1 k2 r.1 (blockOf (behindTheImports p) env (body p env) p1 (base fp))).map fun b => ((b.1, b.2.2, b.2.1.heap.objs.size),
          (segRunT treeTable p w m₀ ann 1 k3 (toT n₁ b.2.1) (piecesOf (behindTheImports p) env (body p env) p2 (base fp))).map fun c => ((c.1, c.2.2),
            (topRun treeTable p w m₀ ann k4 c.2.1.abs ⟨doneF .next, body p env, p3, base fp⟩).map (look p q loose Xt Yf (boot_heap w.params)))))) =
      fun _ => some (⟨denote treeTable (body p env), body p env, p1, base fp⟩, some ((.next, (body p env, p2), n₁), some ((.next, body p env, p3), some (true, openGood q loose, Ya w))))) :
    LeftO p q loose Xt Yf Ya N := fun w => by
  obtain ⟨s0, a0, b0⟩ := Option.map_eq_some_iff.mp (boot_open e0 hN f0 w)
  obtain ⟨hp, gs, d, k, os⟩ := s0
  obtain ⟨rfl, rfl, rfl, rfl⟩ : hp = boot_heap w.params ∧ gs = Array.mk [] ∧ d = boot_drawn ∧ k = boot_toks := by simpa using b0
  obtain ⟨z1, z2, z3⟩ : _ ∧ _ ∧ _ := by simpa only [Prod.mk.injEq] using size w
  obtain ⟨⟨s1, t1⟩, h1, e1⟩ := Option.map_eq_some_iff.mp (congrFun (h w) os)
  obtain ⟨rfl, e1⟩ := Prod.mk.inj e1
  obtain ⟨⟨f2, s2, c2, q2⟩, h2, e2⟩ := Option.map_eq_some_iff.mp e1
  obtain ⟨e2, e2'⟩ := Prod.mk.inj e2
  obtain ⟨rfl, e2⟩ := Prod.mk.inj e2
  obtain ⟨e2, hz⟩ := Prod.mk.inj e2
  obtain ⟨rfl, rfl⟩ := Prod.mk.inj e2
  obtain ⟨⟨f3, s3, c3, q3⟩, h3, e3⟩ := Option.map_eq_some_iff.mp e2'
  obtain ⟨e3, e3'⟩ := Prod.mk.inj e3
  obtain ⟨rfl, e3⟩ := Prod.mk.inj e3
  obtain ⟨rfl, rfl⟩ := Prod.mk.inj e3
  obtain ⟨s4, h4, e4⟩ := Option.map_eq_some_iff.mp e3'
  have h3' := segRun_of h3
  rw [toT_abs hz] at h3'
  have h4' : topRun treeTable p w m₀ ann (k3 + k4) s2 (restOf (behindTheImports p ++ []) env (body p env) _ [topFrame fp]) = some s4 := piece_app h3' h4
  rw [List.append_nil] at h4'
  have r := topRun_mono (N - (k1 + (k2 + (k3 + k4)))) _ _ _ _ (go_top h1 (piece_block h2 h4'))
  rw [show k1 + (k2 + (k3 + k4)) + (N - (k1 + (k2 + (k3 + k4)))) = N by have := Nat.le_of_ble_eq_true le; omega] at r
  obtain ⟨l1, l2⟩ := Prod.mk.inj e4
  have t : topFrom treeTable p w N ⟨boot_heap w.params, Array.mk [], boot_drawn, boot_toks, os⟩ = some s4 := by
    unfold topFrom
    dsimp only
    rw [z1, z2, z3, r]
    dsimp only [Option.bind_some]
    rw [l1]
  unfold openEnds
  rw [a0]
  show (topFrom treeTable p w N _).map _ = _
  rw [t]
  exact congrArg some l2
end Hd

/-! the head in several goes: for texts whose run is too long for one. -/
namespace Hd
open PySem PySem.W PySem.Calls PyProof.Rows

end Hd
namespace Hd
open PySem PySem.W PySem.Calls PyProof.Rows
end Hd

namespace L2
open PySem PySem.Spec PyProof.Rows

/-! ### lists of pairs as tables -/
section
variable {κ : Type} [DecidableEq κ]
def valV (kvs : List (κ × V)) (k : κ) : Option V := (kvs.find? fun kv => decide (kv.1 = k)).map (·.2)
def putK (kvs : List (κ × V)) (k : κ) (v : V) : List (κ × V) :=
  if (kvs.any fun kv => decide (kv.1 = k)) = true then kvs.map (fun kv => if kv.1 = k then (kv.1, v) else kv) else kvs ++ [(k, v)]
theorem valV_nil {k : κ} : valV ([] : List (κ × V)) k = none := rfl
theorem valV_pos {p : κ × V} {r : List (κ × V)} {k : κ} (e : p.1 = k) : valV (p :: r) k = some p.2 := by simp [valV, List.find?_cons, e]
theorem valV_neg {p : κ × V} {r : List (κ × V)} {k : κ} (e : ¬ p.1 = k) : valV (p :: r) k = valV r k := by simp [valV, List.find?_cons, e]
theorem valV_any (k : κ) : ∀ kvs : List (κ × V), (kvs.any fun kv => decide (kv.1 = k)) = (valV kvs k).isSome
  | [] => rfl
  | p :: r => by
    rw [List.any_cons]
    by_cases e : p.1 = k
    · simp only [valV_pos e, decide_eq_true e, Bool.true_or, Option.isSome_some]
    · rw [valV_neg e, decide_eq_false e, Bool.false_or]; exact valV_any k r
theorem valV_map (k j : κ) (y : V) : ∀ kvs : List (κ × V), valV (kvs.map fun kv => if kv.1 = k then (kv.1, y) else kv) j = (valV kvs j).map fun x => if j = k then y else x
  | [] => rfl
  | p :: r => by
    have ih := valV_map k j y r
    rw [List.map_cons]
    by_cases h : p.1 = k
    · rw [if_pos h]
      by_cases e : p.1 = j
      · rw [valV_pos (p := (p.1, y)) e, valV_pos e, Option.map_some, if_pos (e.symm.trans h)]
      · rw [valV_neg (p := (p.1, y)) e, valV_neg e, ih]
    · rw [if_neg h]
      by_cases e : p.1 = j
      · rw [valV_pos (p := p) e, valV_pos e, Option.map_some, if_neg (fun z => h (e.trans z))]
      · rw [valV_neg (p := p) e, valV_neg e, ih]
theorem valV_snoc (k j : κ) (y : V) : ∀ kvs : List (κ × V), valV kvs k = none → valV (kvs ++ [(k, y)]) j = if j = k then some y else valV kvs j
  | [], _ => by
    by_cases e : k = j
    · rw [if_pos e.symm]; exact valV_pos (p := (k, y)) e
    · rw [if_neg (fun z => e z.symm)]; exact valV_neg (p := (k, y)) e
  | p :: r, hn => by
    rw [List.cons_append]
    have hk : ¬ p.1 = k := fun z => by rw [valV_pos z] at hn; cases hn
    rw [valV_neg hk] at hn
    have ih := valV_snoc k j y r hn
    by_cases e : p.1 = j
    · rw [valV_pos e, valV_pos e, if_neg (fun z => hk (e.trans z))]
    · rw [valV_neg e, valV_neg e, ih]
theorem valV_put (kvs : List (κ × V)) (k j : κ) (y : V) : valV (putK kvs k y) j = if j = k then some y else valV kvs j := by
  unfold putK
  by_cases a : (kvs.any fun kv => decide (kv.1 = k)) = true
  · rw [if_pos a, valV_map]
    rw [valV_any] at a
    by_cases e : j = k
    · obtain ⟨x, hx⟩ := Option.isSome_iff_exists.mp a
      rw [if_pos e, e, hx, Option.map_some, if_pos rfl]
    · rw [if_neg e]
      cases valV kvs j with
      | none => rfl
      | some x => rw [Option.map_some, if_neg e]
  · rw [if_neg a]
    refine valV_snoc k j y kvs ?_
    rw [valV_any] at a
    cases q : valV kvs k with
    | none => rfl
    | some x => rw [q] at a; exact (a rfl).elim
theorem length_putK (kvs : List (κ × V)) (k : κ) (v : V) : (putK kvs k v).length ≤ kvs.length + 1 := by
  unfold putK
  split
  · rw [List.length_map]; omega
  · rw [List.length_append, List.length_cons, List.length_nil]; omega
theorem RelO.isSome_eq {o : Option V} {u : Option Value} (r : RelO o u) : o.isSome = u.isSome := by
  cases o with
  | none => cases u with
    | none => rfl
    | some _ => exact (show False from r).elim
  | some _ => cases u with
    | none => exact (show False from r).elim
    | some _ => rfl
theorem RelO.getD {o : Option V} {u : Option Value} {d : V} {d' : Value} (r : RelO o u) (rd : RelV d d') : RelV (o.getD d) (u.getD d') := by
  cases o with
  | none => cases u with
    | none => exact rd
    | some _ => exact (show False from r).elim
  | some _ => cases u with
    | none => exact (show False from r).elim
    | some _ => exact r

theorem KV.val {kvs : List (κ × V)} {vs : List (κ × Value)} (r : KV kvs vs) (k : κ) : RelO (valV kvs k) (valueAt vs k) := by
  unfold KV at r
  induction r with
  | nil => exact True.intro
  | @cons p q ps qs h t ih =>
    obtain ⟨h1, h2⟩ := h
    by_cases e : p.1 = k
    · have e' : q.1 = k := h1.symm.trans e
      have b : valueAt (q :: qs) k = some q.2 := by simp [valueAt, List.find?_cons, e']
      rw [valV_pos e, b]; exact h2
    · have e' : ¬ q.1 = k := fun z => e (h1.trans z)
      have b : valueAt (q :: qs) k = valueAt qs k := by simp [valueAt, List.find?_cons, e']
      rw [valV_neg e, b]; exact ih
theorem KV.any {kvs : List (κ × V)} {vs : List (κ × Value)} (r : KV kvs vs) (k : κ) : (kvs.any fun kv => decide (kv.1 = k)) = vs.any fun kv => decide (kv.1 = k) := by
  unfold KV at r
  induction r with
  | nil => rfl
  | cons h t ih => rw [List.any_cons, List.any_cons, ih, h.1]
theorem KV.repl {kvs : List (κ × V)} {vs : List (κ × Value)} (r : KV kvs vs) (k : κ) {y : V} {u : Value} (ry : RelV y u) :
    KV (kvs.map fun kv => if kv.1 = k then (kv.1, y) else kv) (vs.map fun kv => if kv.1 = k then (kv.1, u) else kv) := by
  unfold KV at r ⊢
  induction r with
  | nil => exact .nil
  | @cons p q ps qs h t ih =>
    rw [List.map_cons, List.map_cons]
    refine .cons ?_ ih
    obtain ⟨h1, h2⟩ := h
    by_cases e : p.1 = k
    · rw [if_pos e, if_pos (h1.symm.trans e)]; exact ⟨h1, ry⟩
    · rw [if_neg e, if_neg (fun z => e (h1.trans z))]; exact ⟨h1, h2⟩
theorem KV.put {kvs : List (κ × V)} {vs : List (κ × Value)} (r : KV kvs vs) (k : κ) {y : V} {u : Value} (ry : RelV y u) : KV (putK kvs k y) (stored vs k u) := by
  unfold putK stored
  rw [r.any k]
  by_cases e : (vs.any fun kv => decide (kv.1 = k)) = true
  · rw [if_pos e, if_pos e]; exact r.repl k ry
  · rw [if_neg e, if_neg e]; exact Paired.snoc r ⟨rfl, ry⟩
theorem KV.length {kvs : List (κ × V)} {vs : List (κ × Value)} (r : KV kvs vs) : kvs.length = vs.length := Paired.length r
end


/-! ### a tracked dict, its keys ints and texts or tuples of these -/
theorem kV_is {P : Program} {w : World} {k : Key} {u : Value} (r : RelV (kV k) u) : (mixKind P w).is k u = true := by
  cases k with
  | inl i => obtain ⟨t, e⟩ := (show ∃ t, u = Value.int i t from r); subst e; exact mixKind_int P w i t
  | inr x => obtain ⟨t, e⟩ := (show ∃ t, u = Value.str x t from r); subst e; exact mixKind_str P w x t
theorem items_are {P : Program} {w : World} : ∀ {ks : List Key} {us : List Value}, Vals (ks.map kV) us → ItemsAre (mixKind P w) ks us
  | [], _, r => by rw [List.map_nil] at r; cases r; exact .nil
  | k :: ks, _, r => by
    rw [List.map_cons] at r
    cases r with
    | cons h t => exact .cons (kV_is h) (items_are t)

abbrev KT (H : Hp) : List (List Key × V) → List (List Key × Addr × Value) → Prop := Paired fun p q => p.1 = q.1 ∧ H q.2.1 = some (.tup (p.1.map kV)) ∧ RelV p.2 q.2.2
theorem KT.val {H : Hp} {kvs : List (List Key × V)} {xs : List (List Key × Addr × Value)} (r : KT H kvs xs) (k : List Key) : RelO (valV kvs k) ((atKey xs k).map (·.2)) := by
  induction r with
  | nil => exact True.intro
  | @cons p q ps qs h t ih =>
    obtain ⟨h1, _, h2⟩ := h
    by_cases e : p.1 = k
    · have e' : q.1 = k := h1.symm.trans e
      have b : atKey (q :: qs) k = some q.2 := by simp [atKey, List.find?_cons, e']
      rw [valV_pos e, b]; exact h2
    · have e' : ¬ q.1 = k := fun z => e (h1.trans z)
      have b : atKey (q :: qs) k = atKey qs k := by simp [atKey, List.find?_cons, e']
      rw [valV_neg e, b]; exact ih
theorem KT.repl {H : Hp} {kvs : List (List Key × V)} {xs : List (List Key × Addr × Value)} (r : KT H kvs xs) (k : List Key) {y : V} {u : Value} (ry : RelV y u) :
    KT H (kvs.map fun kv => if kv.1 = k then (kv.1, y) else kv) (xs.map (putAt k u)) := by
  induction r with
  | nil => exact .nil
  | @cons p q ps qs h t ih =>
    rw [List.map_cons, List.map_cons]
    refine .cons ?_ ih
    obtain ⟨h1, h2, h3⟩ := h
    unfold putAt
    by_cases e : p.1 = k
    · rw [if_pos e, if_pos (h1.symm.trans e)]; exact ⟨h1, h2, ry⟩
    · rw [if_neg e, if_neg (fun z => e (h1.trans z))]; exact ⟨h1, h2, h3⟩
theorem KT.put {H : Hp} {kvs : List (List Key × V)} {xs : List (List Key × Addr × Value)} (r : KT H kvs xs) (k : List Key) {b : Addr} {y : V} {u : Value} (hb : H b = some (.tup (k.map kV))) (ry : RelV y u) :
    KT H (putK kvs k y) (storedH xs k b u) := by
  have e : (kvs.any fun kv => decide (kv.1 = k)) = (atKey xs k).isSome := by
    rw [valV_any, (r.val k).isSome_eq, Option.isSome_map]
  unfold putK storedH
  rw [e]
  by_cases q : (atKey xs k).isSome = true
  · rw [if_pos q, if_pos q]; exact r.repl k ry
  · rw [if_neg q, if_neg q]; exact Paired.snoc r ⟨rfl, hb, ry⟩
theorem KT.keeps {H H' : Hp} {kvs : List (List Key × V)} {xs : List (List Key × Addr × Value)} (r : KT H kvs xs) (ht : ∀ b ys, H b = some (.tup ys) → H' b = some (.tup ys)) : KT H' kvs xs :=
  Paired.mapP r fun _ _ z => ⟨z.1, ht _ _ z.2.1, z.2.2⟩

section
variable {P : Program} {w : World} {H : Hp} {h : Heap} {a : Addr}
theorem rd_of {u : HO} (ok : HOk P w H h) (e : Rd H a u) : ObjOk P w H h a u := e.ok ok
theorem dk_rd {kvs : List (Key × V)} (ok : HOk P w H h) (e : Rd H a (.dK kvs)) : kvs.length ≤ sizeLine ∧ (a == sysModules) = false ∧ ∃ vs, KV kvs vs ∧ h.DictOf (mixKind P w) a vs :=
  show ObjOk P w H h a (.dK kvs) from rd_of ok e
theorem dk_of {kvs : List (Key × V)} (ok : HOk P w H h) (e : H a = some (.dK kvs)) : kvs.length ≤ sizeLine ∧ (a == sysModules) = false ∧ ∃ vs, KV kvs vs ∧ h.DictOf (mixKind P w) a vs := dk_rd ok (.inl e)
theorem key_of {ks : List Key} (ok : HOk P w H h) (e : H a = some (.tup (ks.map kV))) : (tupleKind (mixKind P w)).is h ks a := by
  obtain ⟨_, its, r, o, h1, h2, n, h3⟩ := (show ObjOk P w H h a (.tup (ks.map kV)) from ok a _ e)
  exact ⟨o, its.toArray, n, h1, h2, h3, by simpa using items_are r⟩
theorem dt_rd {kvs : List (List Key × V)} (ok : HOk P w H h) (e : Rd H a (.dT kvs)) : kvs.length ≤ sizeLine ∧ (a == sysModules) = false ∧
    ∃ xs, KT H kvs xs ∧ h.DictOfH (tupleKind (mixKind P w)) a xs := by
  obtain ⟨z, y, xs, r, o, es, ep, h1, h2, h3, h4, h5⟩ := (show ObjOk P w H h a (.dT kvs) from rd_of ok e)
  refine ⟨z, y, xs, r, o, es, ep, h1, h2, h3, h4, fun x hx => ?_, h5⟩
  have all : ∀ {l : List (List Key × V)} {m : List (List Key × Addr × Value)}, KT H l m → ∀ x ∈ m, (tupleKind (mixKind P w)).is h x.1 x.2.1 := by
    intro l m q
    induction q with
    | nil => intro x hx; exact nomatch hx
    | @cons p q ps qs hq t ih =>
      intro x hx
      rcases List.mem_cons.mp hx with e | hx
      · subst e
        exact key_of ok (by rw [← hq.1]; exact hq.2.1)
      · exact ih x hx
  exact all r x hx
theorem dt_of {kvs : List (List Key × V)} (ok : HOk P w H h) (e : H a = some (.dT kvs)) : kvs.length ≤ sizeLine ∧ (a == sysModules) = false ∧
    ∃ xs, KT H kvs xs ∧ h.DictOfH (tupleKind (mixKind P w)) a xs := dt_rd ok (.inl e)
end

def DGet (H : Hp) (a : Addr) (y : V) (r : Option V) : Prop :=
  (∃ kvs k, Rd H a (.dK kvs) ∧ y = kV k ∧ r = valV kvs k) ∨ ∃ kvs k b, Rd H a (.dT kvs) ∧ y = .ref b ∧ H b = some (.tup (k.map kV)) ∧ r = valV kvs k
def DPut (H : Hp) (a : Addr) (y v : V) (H' : Hp) : Prop :=
  (∃ kvs k, H a = some (.dK kvs) ∧ y = kV k ∧ kvs.length < sizeLine ∧ H' = upd H a (.dK (putK kvs k v))) ∨
  ∃ kvs k b, H a = some (.dT kvs) ∧ y = .ref b ∧ H b = some (.tup (k.map kV)) ∧ kvs.length < sizeLine ∧ H' = upd H a (.dT (putK kvs k v))
theorem DGet.t {H : Hp} {a b : Addr} {kvs : List (List Key × V)} {k : List Key} (e : H a = some (.dT kvs)) (eb : H b = some (.tup (k.map kV))) : DGet H a (.ref b) (valV kvs k) := .inr ⟨kvs, k, b, .inl e, rfl, eb, rfl⟩
theorem DPut.k {H : Hp} {a : Addr} {kvs : List (Key × V)} {k : Key} {v : V} (e : H a = some (.dK kvs)) (hl : kvs.length < sizeLine) : DPut H a (kV k) v (upd H a (.dK (putK kvs k v))) := .inl ⟨kvs, k, e, rfl, hl, rfl⟩
theorem DPut.t {H : Hp} {a b : Addr} {kvs : List (List Key × V)} {k : List Key} {v : V} (e : H a = some (.dT kvs)) (eb : H b = some (.tup (k.map kV))) (hl : kvs.length < sizeLine) :
    DPut H a (.ref b) v (upd H a (.dT (putK kvs k v))) := .inr ⟨kvs, k, b, e, rfl, eb, hl, rfl⟩


section
variable {X : Cx} {pins : List (Addr × Obj)} {σ : St} {H : Hp} {s : Shared} {a : Addr} {y v : V} {u r : Value} {o : Option V} {A : Around} {E : Value → Shared → Prop}

theorem Inv.big (I : Inv X pins σ H s) : sysModules < s.heap.objs.size := by
  have h : mainGlobals < s.heap.objs.size := (I.mod.glob.keeps I.bk).lt
  exact Nat.lt_trans (by decide) h

theorem d_getItem {Q : Value → Shared → Prop} (hu : A.units + 1 < cLine) (I : Inv X pins σ H s) (g : DGet H a y (some v)) (ry : RelV y u) (h : ∀ w' s', Inv X pins σ H s' → RelV v w' → Q w' s') :
    wpAny (model X.prog X.w) A (getItem (.ref a) u) Q E s := by
  rcases g with ⟨kvs, k, e, ey, l⟩ | ⟨kvs, k, b, e, ey, eb, l⟩
  · subst ey
    obtain ⟨z, hd, vs, rel, dd⟩ := dk_rd I.hok e
    obtain ⟨w', hw, rw'⟩ := RelO.some_of (v := v) (o := valueAt vs k) (by rw [l]; exact rel.val k)
    exact wpAny_getItem_of (kV_is ry) dd.mapOf hw (h w' _ (I.tok _) rw')
  · subst ey
    cases (show u = Value.ref b from ry)
    obtain ⟨z, hd, xs, rel, dd⟩ := dt_rd I.hok e
    obtain ⟨w', hw, rw'⟩ := RelO.some_of (v := v) (o := (atKey xs k).map (·.2)) (by rw [l]; exact rel.val k)
    obtain ⟨p, hp, hp2⟩ := Option.map_eq_some_iff.mp hw
    refine wpAny_getItem_heap (tupleKind_room_in1 hu) (key_of I.hok eb) dd hp ?_
    rw [hp2]
    exact h w' _ (I.tok _) rw'
theorem d_notIn {Q : Value → Shared → Prop} (hu : A.units + 1 < cLine) (I : Inv X pins σ H s) (g : DGet H a y o) (ry : RelV y u) (h : ∀ s', Inv X pins σ H s' → Q (.bool (!o.isSome)) s') :
    wpAny (model X.prog X.w) A (compareOp .NotIn u (.ref a)) Q E s := by
  rcases g with ⟨kvs, k, e, ey, l⟩ | ⟨kvs, k, b, e, ey, eb, l⟩
  · subst ey
    obtain ⟨z, hd, vs, rel, dd⟩ := dk_rd I.hok e
    refine wpAny_notIn_of (kV_is ry) hd dd.mapOf ?_
    rw [← (rel.val k).isSome_eq, ← l]
    exact h _ (I.tok _)
  · subst ey
    cases (show u = Value.ref b from ry)
    obtain ⟨z, hd, xs, rel, dd⟩ := dt_rd I.hok e
    refine wpAny_notIn_heap (tupleKind_room_in1 hu) (key_of I.hok eb) hd dd ?_
    have q := (rel.val k).isSome_eq
    rw [Option.isSome_map] at q
    rw [← q, ← l]
    exact h _ (I.tok _)
theorem d_write {h' : Heap} {t' : Nat} {ob : HO} (I : Inv X pins σ H s) (mu : Mut (H a)) (hs : Heap.SameBut a s.heap h') (he : ∃ q, h'.get? a = some q) (new : ObjOk X.prog X.w (upd H a ob) h' a ob) :
    Inv X pins σ (upd H a ob) { s with heap := h', toks := t' } :=
  I.write (x := a) (e := a) mu (.inl rfl) (fun b q hb z => (hs.2 b hb).trans z) he new
theorem dk_new {P : Program} {w : World} {H' : Hp} {h' : Heap} {kvs : List (Key × V)} {vs : List (Key × Value)} (z : kvs.length ≤ sizeLine) (hd : (a == sysModules) = false) (rel : KV kvs vs) (dd : h'.DictOf (mixKind P w) a vs) :
    ObjOk P w H' h' a (.dK kvs) := ⟨z, hd, vs, rel, dd⟩
theorem d_setItem {H' : Hp} {Q : Unit → Shared → Prop} (hu : A.units + 1 < cLine) (I : Inv X pins σ H s) (g : DPut H a y v H') (ry : RelV y u) (rv : RelV v r) (h : ∀ s', Inv X pins σ H' s' → Q () s') :
    wpAny (model X.prog X.w) A (setItem (.ref a) u r) Q E s := by
  rcases g with ⟨kvs, k, e, ey, l, eH⟩ | ⟨kvs, k, b, e, ey, eb, l, eH⟩
  · subst ey eH
    obtain ⟨z, hd, vs, rel, dd⟩ := dk_of I.hok e
    have hz : vs.length ≤ sizeLine := by rw [← rel.length]; exact z
    have hl : (putK kvs k v).length ≤ sizeLine := by have := length_putK kvs k v; omega
    refine wpAny_setItem_pairs (hsz := hz) (kV_is ry) dd fun h' dd' hs => h _ ?_
    have he : ∃ q, h'.get? a = some q := let ⟨q, _, _, hq, _⟩ := dd'; ⟨q, hq⟩
    exact d_write I (by rw [e]; exact True.intro) hs he (dk_new hl hd (rel.put k rv) dd')
  · subst ey eH
    cases (show u = Value.ref b from ry)
    obtain ⟨z, hd, xs, rel, dd⟩ := dt_of I.hok e
    have hz : xs.length ≤ sizeLine := by rw [← Paired.length rel]; exact z
    have hl : (putK kvs k v).length ≤ sizeLine := by have := length_putK kvs k v; omega
    refine wpAny_setItem_heap (hsz := hz) (tupleKind_room_in1 hu) (key_of I.hok eb) dd fun h' dd' hs => h _ ?_
    obtain ⟨q, es, ep, hq, h2, h3, h4, _, h5⟩ := dd'
    refine d_write I (by rw [e]; exact True.intro) hs ⟨q, hq⟩ ⟨hl, hd, _, (rel.put k eb rv).keeps fun c ys ec => ?_, q, es, ep, hq, h2, h3, h4, h5⟩
    rw [upd_ne (ne_of ec e (fun z => nomatch z))]
    exact ec
end

section
variable {X : Cx} {pins : List (Addr × Obj)} {σ : St} {H : Hp} {s : Shared} {a : Addr} {kvs : List (Key × V)} {k : Key} {u : Value} {A : Around} {E : Value → Shared → Prop}
end


/-! ### readings and rules -/
def NoSl (i : Expr) : Prop := ∀ ov iv, subscripted i false ov iv = operate [ov, iv] (getItem ov iv)
theorem subD_of {prog : Program} {w : World} {A : Around} {E : Value → Shared → Prop} {s : Shared} {env : Env} {value slice : Expr} {pos : Pos} {T id : String} {Q : Value → Shared → Prop}
    (hl : typeLookup (.type T) "__getitem__" = pure (some (.builtin id))) (hs : NoSl slice)
    (h : wpAny (model prog w) A (eval value env) (fun o s₁ => wpAny (model prog w) A (eval slice env) (fun i s₂ => s₂.TypeIs o T ∧ wpAny (model prog w) A (getItem o i) Q E s₂) E s₁) E s) :
    wpAny (model prog w) A (eval (.Subscript value slice pos) env) Q E s := by
  refine Subscript_ (wpAny_mono h (fun o s₁ h₁ => wpAny_mono h₁ (fun i s₂ h₂ => ?_) fun _ _ x => x) fun _ _ x => x)
  obtain ⟨hT, h₂⟩ := h₂
  unfold subscriptTail
  refine wpAny_bind ?_
  rw [getitemInPython_of_ne hT.not_modules]
  refine wpAny_bind (wpAny_specialOf hT hl ?_)
  have fin : wpAny (model prog w) A (subscripted slice false o i) (fun r s₃ => wpAny (model prog w) A (letTemporaryGo value o r >>= fun _ => pure r) Q E s₃) E s₂ := by
    rw [hs o i]
    exact wpAny_operating (wpAny_mono h₂ (fun r s₃ h₃ => wpAny_bind (wpAny_letTemporaryGo (wpAny_pure h₃))) fun _ _ x => x)
  first
    | exact wpAny_pure (wpAny_bind fin)
    | exact wpAny_bind (wpAny_pure (wpAny_bind fin))
    | exact wpAny_bind fin

theorem dict_typeIs {X : Cx} {pins : List (Addr × Obj)} {σ : St} {H : Hp} {s : Shared} {a : Addr} {y : V} {o : Option V} (I : Inv X pins σ H s) (g : DGet H a y o) : s.TypeIs (.ref a) "dict" := by
  rcases g with ⟨kvs, k, e, _, _⟩ | ⟨kvs, k, b, e, _, _, _⟩
  · obtain ⟨_, _, vs, _, dd⟩ := dk_rd I.hok e
    exact dd.typeIs
  · obtain ⟨_, _, xs, _, dd⟩ := dt_rd I.hok e
    exact dd.typeIs
def tDGet (td ty : TE) : TE := fun σ H Q => td σ H fun x H1 => ty σ H1 fun y H2 => ∃ a v, x = .ref a ∧ DGet H2 a y (some v) ∧ Q v H2
def tDNotIn (ty td : TE) : TE := fun σ H Q => ty σ H fun y H1 => td σ H1 fun x H2 => ∃ a o, x = .ref a ∧ DGet H2 a y o ∧ Q (.bl (!o.isSome)) H2
def sDPut (td ty tv : TE) : TS := fun D σ H => tv σ H fun v H1 => td σ H1 fun x H2 => ty σ H2 fun y H3 => ∃ a H4, x = .ref a ∧ DPut H3 a y v H4 ∧ D.nx σ H4
section
variable {X : Cx} {o i e value : Expr} {pos pos' tpos : Pos} {td ty tv : TE}
theorem pe_dget (hu : X.A.units + 1 < cLine) (ho : PE X o td) (hi : PE X i ty) (hs : NoSl i) : PE X (.Subscript o i pos) (tDGet td ty) := by
  intro pins s σ H Q I h
  refine subD_of PySem.F.slot_dict_getitem.lookup hs (thn (ho pins s σ H _ I h) fun u s1 ⟨x, H1, I1, rx, q1⟩ => thn (hi pins s1 σ H1 _ I1 q1) fun iv s2 ⟨y, H2, I2, ry, a, v, ex, g, q2⟩ => ?_)
  subst ex
  obtain rfl : u = Value.ref a := rx
  exact ⟨dict_typeIs I2 g, d_getItem hu I2 g ry fun w' s3 I3 rw' => ⟨v, H2, I3, rw', q2⟩⟩
theorem pc_dnotin (hu : X.A.units + 1 < cLine) (hi : PE X i ty) (ho : PE X o td) : PC X .NotIn i o (tDNotIn ty td) := by
  intro pins s σ H Q I h
  refine thn (hi pins s σ H _ I h) fun iv s1 ⟨y, H1, I1, ry, q1⟩ => thn (ho pins s1 σ H1 _ I1 q1) fun u s2 ⟨x, H2, I2, rx, a, ov, ex, g, q2⟩ => ?_
  subst ex
  obtain rfl : u = Value.ref a := rx
  exact d_notIn hu I2 g ry fun s3 I3 => ⟨.bl (!ov.isSome), H2, I3, rfl, q2⟩
theorem ps_dput (hu : X.A.units + 1 < cLine) (ho : PE X o td) (hi : PE X i ty) (hv : PE X value tv) (hs : swapsWith value (some (.Subscript o i pos')) pos.line X.env = pure false) :
    PS X (.Assign [.Subscript o i pos'] value pos) (sDPut td ty tv) := by
  intro pins s σ H D I h
  refine wpAny_Assign_Subscript (thn (hv pins s σ H _ I h) fun r s1 ⟨v, H1, I1, rv, q1⟩ => thn (ho pins s1 σ H1 _ I1 q1) fun u s2 ⟨x, H2, I2, rx, q2⟩ => thn (hi pins s2 σ H2 _ I2 q2) fun iv s3 ⟨y, H3, I3, ry, a, H4, ex, g, q3⟩ => ?_) hs
  subst ex
  obtain rfl : u = Value.ref a := rx
  exact d_setItem hu I3 g ry rv fun s4 I4 => ⟨σ, H4, I4, q3⟩
end


/-! ### displays -/
theorem dk_empty {P : Program} {w : World} {H : Hp} (h : Heap) (hb : sysModules < h.objs.size) : ObjOk P w H (h.push { cls := .type "dict", data := .dict #[] }) h.objs.size (.dK []) :=
  ⟨Nat.zero_le _, beq_eq_false_iff_ne.mpr (Ne.symm (Nat.ne_of_lt hb)), [], .nil, Heap.DictOf.new h⟩
theorem dt_empty {P : Program} {w : World} {H : Hp} (h : Heap) (hb : sysModules < h.objs.size) : ObjOk P w H (h.push { cls := .type "dict", data := .dict #[] }) h.objs.size (.dT []) :=
  ⟨Nat.zero_le _, beq_eq_false_iff_ne.mpr (Ne.symm (Nat.ne_of_lt hb)), [], .nil, _, #[], 0, Heap.get?_push_size _ rfl, ⟨rfl, rfl, rfl⟩, rfl, rfl, List.nodup_nil⟩
def tDNewK : TE := fun _ H Q => ∀ p, H p = none → Q (.ref p) (upd H p (.dK []))
def tDNewT : TE := fun _ H Q => ∀ p, H p = none → Q (.ref p) (upd H p (.dT []))
section
variable {X : Cx} {pos : Pos}
theorem pe_dnewK : PE X (.Dict [] [] pos) tDNewK := fun pins s σ H Q I h =>
  wpAny_Dict_empty ⟨.ref s.heap.objs.size, _, I.laid (a := s.heap.objs.size) (o := .dK []) (t' := s.toks) (fun _ _ q => Heap.get?_push_of_some _ q) (Nat.le_refl _) (dk_empty s.heap I.big), rfl, h _ (I.hok.fresh (Nat.le_refl _))⟩
theorem pe_dnewT : PE X (.Dict [] [] pos) tDNewT := fun pins s σ H Q I h =>
  wpAny_Dict_empty ⟨.ref s.heap.objs.size, _, I.laid (a := s.heap.objs.size) (o := .dT []) (t' := s.toks) (fun _ _ q => Heap.get?_push_of_some _ q) (Nat.le_refl _) (dt_empty s.heap I.big), rfl, h _ (I.hok.fresh (Nat.le_refl _))⟩
end

def tPairs : List (TE × TE) → St → Hp → (List (V × V) → Hp → Prop) → Prop
  | [], _, H, Q => Q [] H
  | (tk, tv) :: r, σ, H, Q => tk σ H fun x H1 => tv σ H1 fun y H2 => tPairs r σ H2 fun ps H3 => Q ((x, y) :: ps) H3
/-! ### methods -/
section
variable {X : Cx} {pins : List (Addr × Obj)} {σ : St} {H : Hp} {s : Shared} {a : Addr} {y d : V} {u r : Value} {o : Option V} {A : Around} {E : Value → Shared → Prop}
theorem d_get2 {Q : Value → Shared → Prop} (hu : A.units + 1 < cLine) (I : Inv X pins σ H s) (g : DGet H a y o) (ry : RelV y u) (rd : RelV d r) (h : ∀ w' s', Inv X pins σ H s' → RelV (o.getD d) w' → Q w' s') :
    wpAny (model X.prog X.w) A (call (.builtin "dict.get") [.ref a, u, r]) Q E s := by
  rcases g with ⟨kvs, k, e, ey, l⟩ | ⟨kvs, k, b, e, ey, eb, l⟩
  · subst ey
    obtain ⟨z, hd, vs, rel, dd⟩ := dk_rd I.hok e
    refine call_meetsIn PySem.F.slot_dict_get dd.typeIs PySem.F.entry_dict_get (PySem.F.args_dict_get_3 _ _ _) (meets_dict_get_default (mixKind X.prog X.w) a (kV_is ry) hd r) ⟨_, dd.mapOf, h _ _ (I.tok _) ?_⟩
    rw [l]
    exact (rel.val k).getD rd
  · subst ey
    cases (show u = Value.ref b from ry)
    obtain ⟨z, hd, xs, rel, dd⟩ := dt_rd I.hok e
    refine call_meetsIn PySem.F.slot_dict_get dd.typeIs PySem.F.entry_dict_get (PySem.F.args_dict_get_3 _ _ _) (meetsH_dict_get_default (tupleKind (mixKind X.prog X.w)) a b hd r) ⟨tupleKind_room_in1 hu, k, xs, key_of I.hok eb, dd, h _ _ (I.tok _) ?_⟩
    rw [l]
    exact (rel.val k).getD rd
end

section
variable {X : Cx} {o e f : Expr} {apos cpos : Pos} {td ty tx : TE}
end

/-! ### dict(d): a copy -/
section
variable {X : Cx} {pins : List (Addr × Obj)} {σ : St} {H : Hp} {s : Shared} {a : Addr} {kvs : List (Key × V)} {A : Around} {E : Value → Shared → Prop}
end


section
variable {X : Cx} {pins : List (Addr × Obj)} {σ : St} {H : Hp} {s : Shared} {a : Addr} {y : V} {u : Value} {A : Around} {E : Value → Shared → Prop}
end
section
variable {X : Cx}
end
/-! ### a dict's pairs: keys that differ -/
section
variable {κ : Type} [DecidableEq κ]
end
end L2


/-! Own additions to the hand layer: slices of texts, unpacking a list, isinstance, calls by a bundle. -/
namespace L3
open PySem PySem.Spec PyProof.Rows L2
theorem bt_len : bootBuiltins "len" = some (.builtin "len") := by decide +kernel
theorem bt_min : bootBuiltins "min" = some (.builtin "min") := by decide +kernel
theorem bt_max : bootBuiltins "max" = some (.builtin "max") := by decide +kernel
theorem bt_isinstance : bootBuiltins "isinstance" = some (.builtin "isinstance") := by decide +kernel
theorem bt_int : bootBuiltins "int" = some (.type "int") := by decide +kernel
theorem bt_bool : bootBuiltins "bool" = some (.type "bool") := by decide +kernel
theorem bt_list : bootBuiltins "list" = some (.type "list") := by decide +kernel
theorem bt_tuple : bootBuiltins "tuple" = some (.type "tuple") := by decide +kernel

/-! ### texts as lists of codes -/
abbrev cl (z : Str) : List Nat := z.cps.toList
theorem str_ext {a b : Str} (h : cl a = cl b) : a = b := by
  cases a; cases b; congr 1; exact Array.ext' h
theorem cl_append (a b : Str) : cl (a ++ b) = cl a ++ cl b := by
  show (a.cps ++ b.cps).toList = _
  rw [Array.toList_append]
theorem cl_length (a : Str) : (cl a).length = a.length := by
  show a.cps.toList.length = a.cps.size
  rw [Array.length_toList]
section
variable {X : Cx}
def rSlS : V → Option Int → Option Int → Hp → VK → Prop := fun x lo hi H Q => ∃ z, x = .str z ∧ z.length ≤ sizeLine ∧ Q (.str (Txt.slice z lo hi)) H
theorem part_of {v : Value} {o : Option Int} (p : IsPart v o) : ∃ l : Option (Int × Tok), v = partValue l ∧ l.map (·.1) = o := by
  cases p with
  | none => exact ⟨none, rfl, rfl⟩
  | int i t => exact ⟨some (i, t), rfl, rfl⟩
theorem sl_str : SlR X rSlS := by
  intro pins s σ H x v vl vu lo hi sl Q I rx hs pl pu h
  obtain ⟨z, rfl, hz, q⟩ := h
  obtain ⟨t, rfl⟩ := rx
  obtain ⟨l, rfl, rfl⟩ := part_of pl
  obtain ⟨u, rfl, rfl⟩ := part_of pu
  refine ⟨"str", _, PySem.F.slot_str_getitem.lookup, typeIs_str _ _ _, ?_⟩
  refine wpAny_getItem_str_slice (l := l) (u := u) (st := none) hs rfl ?_
  refine post_val_or_str ⟨Nat.le_trans (Txt.slice_le z _ _) hz, fun t' k => ?_⟩
  exact ⟨.str (Txt.slice z (l.map (·.1)) (u.map (·.1))), H, I.tok _, ⟨_, rfl⟩, q⟩

theorem pe_ty {x : Str} {T : String} {pos : Pos} (hg : Gl X x) (hm : X.mg x = none) (hv : bootBuiltins x = some (.type T)) (hn : x ≠ "__name__" := by decide) (hdb : (x == ("__debug__" : Str)) = false := by decide) :
    PE X (.Name x pos) (tC (.ty T)) := pe_bltn (v := .ty T) hg hm hv rfl hn hdb
theorem call_isinst : CallR X (.builtin "isinstance") (fun xs H Q => ∃ x T t b, xs = [x, .ty T] ∧ TyOf X.K H x t ∧ PySem.W.kitOne X.K t (.type T) = some b ∧ Q (.bl b) H) := by
  intro pins s σ H xs us Q I r h
  obtain ⟨x, T, t, b, rfl, ty, e, q⟩ := h
  obtain ⟨u, w', rfl, rx, rt⟩ := vals2 r
  cases rt
  exact isinst_ok I rx ty e fun tk => ⟨.bl b, H, I.tok _, rfl, q⟩
/-! ### an own def as a caller sees it -/
def Cal (P : Program) (w : World) (K : PySem.W.Frag) (mg : Str → Option Value) (base : Heap) (x : Str) (ps : List Str) (k : Nat) (sp : Sp) : Prop :=
  ∃ f fd, FnOk P w K mg base CX0 k f fd ps sp ∧ Binds K fd ps [] ∧ PySem.W.keepIn K (.ref f) = true ∧ mg x = some (.ref f)
def tFn (sp : Sp) (t : TA) : TE := fun σ H Q => t σ H fun vs H1 => sp vs H1 Q E0
theorem pe_fn {x : Str} {ps : List Str} {k k' : Nat} {sp : Sp} {p pos : Pos} {e : Expr} {es : List Expr} {t : TA} (C : Cal X.prog X.w X.K X.mg X.base x ps k sp) (hr : Room k' X.A) (hk : k ≤ k') (hg : Gl X x)
    (ha : PA X (e :: es) t) (hdb : (x == ("__debug__" : Str)) = false := by decide) (he : starEach (e :: es) X.env = (false, eval e X.env) :: starEach es X.env := by rfl) (hpl : (backTo pos (starEach es X.env)).any (·.1) = false := by rfl) :
    PE X (.Call (.Name x p) (e :: es) [] pos) (tFn sp t) := by
  obtain ⟨f, fd, F, b, kp, hm⟩ := C
  intro pins s σ H Q I h
  refine wpAny_Call_Name_kw (ld_glob I hg hm ?_ hdb)
  refine PySem.W.callWith_K (h₀ := X.base) I.ok.mod.kin kp (thn (ha pos pins s σ H _ I h) fun us s1 ⟨vs, H1, I1, r, q⟩ => ⟨I1.kIn, ?_⟩) he hpl
  exact run_fn (dvs := []) F (hr.mono hk) b .nil pass0 I1 r (by rw [List.append_nil]; exact q)
end
/-! ### a cut: what holds behind a statement, a value that is forgotten but for a word -/
section
variable {X : Cx}
def tMid (t u : TS) : TS := fun D σ H => ∃ M : L2.St → Hp → Prop, t { D with nx := M } σ H ∧ ∀ σ' H', M σ' H' → u D σ' H'
theorem pss_mid {st : Stmt} {rest : List Stmt} {t u : TS} (h1 : PS X st t) (h2 : PSs X rest u) : PSs X (st :: rest) (tMid t u) := by
  intro pins s σ H D I h
  obtain ⟨M, ht, hu⟩ := h
  refine wpAny_execs_cons (thn (h1 pins s σ H { D with nx := M } I ht) fun f s1 q => ?_)
  cases f with
  | next =>
    obtain ⟨σ', H', I', q⟩ := q
    exact h2 pins s1 σ' H' D I' (hu σ' H' q)
  | ret v => exact q
  | brk => exact q
  | cont => exact q
def tAbs (t : TE) : TE := fun σ H Q => ∃ P : V → Hp → Prop, t σ H P ∧ ∀ v H', P v H' → Q v H'
theorem pe_abs {e : Expr} {t : TE} (h : PE X e t) : PE X e (tAbs t) := by
  intro pins s σ H Q I hw
  obtain ⟨P, ht, hq⟩ := hw
  exact thn (h pins s σ H P I ht) fun u s1 ⟨v, H1, I1, r1, q1⟩ => ⟨v, H1, I1, r1, hq v H1 q1⟩
def tAbsT (t : TT) : TT := fun σ H Q => ∃ P : Bool → Hp → Prop, t σ H P ∧ ∀ v H', P v H' → Q v H'
theorem pt_abs {e : Expr} {t : TT} (h : PT X e t) : PT X e (tAbsT t) := by
  intro pins s σ H Q I hw
  obtain ⟨P, ht, hq⟩ := hw
  exact thn (h pins s σ H P I ht) fun u s1 ⟨H1, I1, q1⟩ => ⟨H1, I1, hq u H1 q1⟩
def rPick (K : PySem.W.Frag) : R2 := fun x y H Q => ∃ p xs i, x = .ref p ∧ y = .int i ∧ SqL K H p xs ∧ 0 ≤ i ∧ i < xs.length ∧ ∃ W : V → Prop, (∀ v ∈ xs, W v) ∧ ∀ v, W v → Q v H
theorem ix_pick : IxR X (rPick X.K) := by
  intro value slice pins s σ H x y v u Q I rx ry h hs
  obtain ⟨p, xs, i, rfl, rfl, hq, h0, h1, W, hW, q⟩ := h
  obtain ⟨n, rfl⟩ := Int.eq_ofNat_of_zero_le h0
  have hn : n < xs.length := by omega
  exact ix_list value slice pins s σ H _ _ v u Q I rx ry ⟨p, xs, _, xs[n], rfl, rfl, hq, atI_nat (by rw [List.getElem?_eq_getElem hn]), q _ (hW _ (List.getElem_mem hn))⟩ hs
end
theorem pz {j : Int} (h : decide (0 < j) = true := by decide) : 0 < j := of_decide_eq_true h
theorem iteD {c A B : Prop} [Decidable c] (hc : ¬ c) (h : B) : if decide c = true then A else B := by
  rw [decide_eq_false hc]
  exact iteF h
theorem iteDT {c A B : Prop} [Decidable c] (hc : c) (h : A) : if decide c = true then A else B := by
  rw [decide_eq_true hc]
  exact iteT h
theorem iteDd {c A B : Prop} [Decidable c] (h1 : c → A) (h2 : ¬ c → B) : if decide c = true then A else B := by
  by_cases h : c
  · exact iteDT h (h1 h)
  · exact iteD h (h2 h)
theorem iteNd {c A B : Prop} [Decidable c] (h1 : ¬ c → A) (h2 : c → B) : if (!decide c) = true then A else B := by
  by_cases h : c
  · rw [decide_eq_true h]; exact iteF (h2 h)
  · rw [decide_eq_false h]; exact iteT (h1 h)
theorem same_new {H : Hp} {p : Addr} (h : H p = none) (o : HO) : Same H (upd H p o) := fun b u q => by rw [upd_ne (ne_of_none q h)]; exact q
theorem at_mem {α : Type} {xs : List α} {i : Int} (h0 : 0 ≤ i) (h1 : i < xs.length) : ∃ v, atI xs i = some v ∧ v ∈ xs := by
  obtain ⟨n, rfl⟩ := Int.eq_ofNat_of_zero_le h0
  have hn : n < xs.length := by omega
  exact ⟨xs[n], atI_nat (by rw [List.getElem?_eq_getElem hn]), List.getElem_mem hn⟩
theorem at_some {α : Type} {xs : List α} {i : Int} (h0 : 0 ≤ i) (h1 : i < xs.length) : ∃ v, atI xs i = some v ∧ xs[i.toNat]? = some v := by
  obtain ⟨n, rfl⟩ := Int.eq_ofNat_of_zero_le h0
  have hn : n < xs.length := by omega
  exact ⟨xs[n], atI_nat (by rw [List.getElem?_eq_getElem hn]), by simp [hn]⟩
theorem szl {n : Nat} (h : n ≤ 100000) : n ≤ sizeLine := Nat.le_trans h (by rw [sizeLine_eq]; decide)
end L3

/-! Deep data: what a value stands for (numbers, texts, tuples and lists within one another), and == and in over it. -/
namespace L3
open PySem PySem.Spec PyProof.Rows L2 PySem.SeqAt

inductive D where
  | non | bl (b : Bool) | int (i : Int) | str (x : Str) | tup (xs : List D) | lst (xs : List D)

mutual
def Rep (K : PySem.W.Frag) (H : Hp) : D → V → Prop
  | .non, v => v = .non
  | .bl b, v => v = .bl b
  | .int i, v => v = .int i
  | .str x, v => v = .str x
  | .tup ds, v => ∃ a xs, v = .ref a ∧ SqT K H a xs ∧ Reps K H ds xs
  | .lst ds, v => ∃ a xs, v = .ref a ∧ SqL K H a xs ∧ Reps K H ds xs
def Reps (K : PySem.W.Frag) (H : Hp) : List D → List V → Prop
  | [], vs => vs = []
  | d :: ds, vs => ∃ v r, vs = v :: r ∧ Rep K H d v ∧ Reps K H ds r
end
theorem Same.seqT {K : PySem.W.Frag} {H H' : Hp} {a : Addr} {xs : List V} (e : Same H H') (h : SqT K H a xs) : SqT K H' a xs := by
  rcases h with (h | ⟨o, h⟩) | h
  · exact .inl (.inl (e _ _ h))
  · exact .inl (.inr ⟨o, e _ _ h⟩)
  · exact .inr h
mutual
theorem Rep.mono {K : PySem.W.Frag} {H H' : Hp} (g : Same H H') : ∀ (d : D) (v : V), Rep K H d v → Rep K H' d v
  | .non, _, h => by unfold Rep at h ⊢; exact h
  | .bl _, _, h => by unfold Rep at h ⊢; exact h
  | .int _, _, h => by unfold Rep at h ⊢; exact h
  | .str _, _, h => by unfold Rep at h ⊢; exact h
  | .tup ds, _, h => by
    unfold Rep at h ⊢
    obtain ⟨a, xs, e, q, r⟩ := h
    exact ⟨a, xs, e, Same.seqT g q, Reps.mono g ds xs r⟩
  | .lst ds, _, h => by
    unfold Rep at h ⊢
    obtain ⟨a, xs, e, q, r⟩ := h
    exact ⟨a, xs, e, g.seq q, Reps.mono g ds xs r⟩
theorem Reps.mono {K : PySem.W.Frag} {H H' : Hp} (g : Same H H') : ∀ (ds : List D) (vs : List V), Reps K H ds vs → Reps K H' ds vs
  | [], _, h => by unfold Reps at h ⊢; exact h
  | d :: ds, _, h => by
    unfold Reps at h ⊢
    obtain ⟨v, r, e, q, t⟩ := h
    exact ⟨v, r, e, Rep.mono g d v q, Reps.mono g ds r t⟩
end
theorem Reps.nil {K : PySem.W.Frag} {H : Hp} : Reps K H [] [] := by unfold Reps; rfl
theorem Reps.cons {K : PySem.W.Frag} {H : Hp} {d : D} {v : V} {ds : List D} {vs : List V} (h : Rep K H d v) (t : Reps K H ds vs) : Reps K H (d :: ds) (v :: vs) := by
  unfold Reps; exact ⟨v, vs, rfl, h, t⟩
theorem Reps.inv {K : PySem.W.Frag} {H : Hp} {d : D} {ds : List D} {vs : List V} (h : Reps K H (d :: ds) vs) : ∃ v r, vs = v :: r ∧ Rep K H d v ∧ Reps K H ds r := by
  unfold Reps at h; exact h
theorem Reps.inv0 {K : PySem.W.Frag} {H : Hp} {vs : List V} (h : Reps K H [] vs) : vs = [] := by
  unfold Reps at h; exact h
theorem Reps.length {K : PySem.W.Frag} {H : Hp} : ∀ {ds : List D} {vs : List V}, Reps K H ds vs → ds.length = vs.length
  | [], _, h => by rw [h.inv0]; rfl
  | d :: ds, _, h => by
    obtain ⟨v, r, rfl, _, t⟩ := h.inv
    rw [List.length_cons, List.length_cons, Reps.length t]
theorem Reps.map {K : PySem.W.Frag} {H : Hp} {α : Type} (f : α → D) (g : α → V) (h : ∀ x, Rep K H (f x) (g x)) : ∀ xs : List α, Reps K H (xs.map f) (xs.map g)
  | [] => .nil
  | x :: xs => .cons (h x) (Reps.map f g h xs)

/-! ### Python's == -/
mutual
def eqD : D → D → Bool
  | .non, .non => true
  | .bl a, .bl b => a == b
  | .bl a, .int b => (if a then 1 else 0) == b
  | .int a, .bl b => a == (if b then 1 else 0)
  | .int a, .int b => a == b
  | .str a, .str b => a == b
  | .tup xs, .tup ys => eqDs xs ys
  | .lst xs, .lst ys => eqDs xs ys
  | _, _ => false
def eqDs : List D → List D → Bool
  | [], [] => true
  | x :: xs, y :: ys => eqD x y && eqDs xs ys
  | _, _ => false
end
mutual
def deep : D → Nat
  | .tup xs => deeps xs + 1
  | .lst xs => deeps xs + 1
  | _ => 0
def deeps : List D → Nat
  | [] => 0
  | x :: xs => max (deep x) (deeps xs)
end
mutual
theorem eqD_refl : ∀ d : D, eqD d d = true
  | .non => by simp [eqD]
  | .bl b => by simp [eqD]
  | .int i => by simp [eqD]
  | .str x => by simp [eqD]
  | .tup xs => by rw [eqD]; exact eqDs_refl xs
  | .lst xs => by rw [eqD]; exact eqDs_refl xs
theorem eqDs_refl : ∀ xs : List D, eqDs xs xs = true
  | [] => by simp [eqDs]
  | x :: xs => by rw [eqDs, eqD_refl x, eqDs_refl xs]; rfl
end
/-! no truths within -/
mutual
def noB : D → Bool
  | .bl _ => false
  | .tup xs => noBs xs
  | .lst xs => noBs xs
  | _ => true
def noBs : List D → Bool
  | [] => true
  | x :: xs => noB x && noBs xs
end
mutual
theorem eqD_eq : ∀ d e : D, noB d = true → noB e = true → eqD d e = true → d = e
  | .non, e, _, h2, h => by cases e <;> simp_all [eqD]
  | .bl b, e, h1, _, _ => by simp [noB] at h1
  | .int i, e, _, h2, h => by cases e <;> simp_all [eqD, noB]
  | .str x, e, _, h2, h => by cases e <;> simp_all [eqD]
  | .tup xs, e, h1, h2, h => by
    cases e <;> simp only [eqD, noB, Bool.false_eq_true] at h1 h2 h
    rw [eqDs_eq _ _ h1 h2 h]
  | .lst xs, e, h1, h2, h => by
    cases e <;> simp only [eqD, noB, Bool.false_eq_true] at h1 h2 h
    rw [eqDs_eq _ _ h1 h2 h]
theorem eqDs_eq : ∀ xs ys : List D, noBs xs = true → noBs ys = true → eqDs xs ys = true → xs = ys
  | [], ys, _, _, h => by cases ys <;> simp_all [eqDs]
  | x :: xs, ys, h1, h2, h => by
    cases ys with
    | nil => simp [eqDs] at h
    | cons y ys =>
      simp only [eqDs, noBs, Bool.and_eq_true] at h1 h2 h
      rw [eqD_eq x y h1.1 h2.1 h.1, eqDs_eq xs ys h1.2 h2.2 h.2]
end
def pickEq (xs ys : List D) (j : Nat) : Bool := match xs[j]?, ys[j]? with
  | some x, some y => eqD x y
  | _, _ => false
theorem eqDs_all : ∀ xs ys : List D, eqDs xs ys = ((List.range (min xs.length ys.length)).all (pickEq xs ys) && (xs.length == ys.length))
  | [], [] => by simp [eqDs]
  | [], y :: ys => by simp [eqDs]
  | x :: xs, [] => by simp [eqDs]
  | x :: xs, y :: ys => by
    have ih := eqDs_all xs ys
    have e : min (x :: xs).length (y :: ys).length = min xs.length ys.length + 1 := by simp only [List.length_cons]; omega
    have p : pickEq (x :: xs) (y :: ys) ∘ Nat.succ = pickEq xs ys := by
      funext j; simp [pickEq]
    rw [eqDs, e, List.range_succ_eq_map, List.all_cons, List.all_map, p, ih]
    have q : pickEq (x :: xs) (y :: ys) 0 = eqD x y := by simp [pickEq]
    have l : ((x :: xs).length == (y :: ys).length) = (xs.length == ys.length) := by
      simp only [List.length_cons]
      by_cases h : xs.length = ys.length <;> simp [h]
    rw [q, l, Bool.and_assoc]

section
variable {X : Cx} {pins : List (Addr × Obj)} {σ : L2.St} {H : Hp} {s : Shared}
/-! a value stands for one datum -/
mutual
theorem Rep.inj (I : Inv X pins σ H s) : ∀ (d e : D) (v : V), Rep X.K H d v → Rep X.K H e v → d = e
  | .non, e, v, h, k => by unfold Rep at h; subst h; cases e <;> simp [Rep] at k <;> rfl
  | .bl b, e, v, h, k => by unfold Rep at h; subst h; cases e <;> simp [Rep] at k; rw [k]
  | .int i, e, v, h, k => by unfold Rep at h; subst h; cases e <;> simp [Rep] at k; rw [k]
  | .str x, e, v, h, k => by unfold Rep at h; subst h; cases e <;> simp [Rep] at k; rw [k]
  | .tup ds, e, v, h, k => by
    unfold Rep at h
    obtain ⟨a, xs, rfl, q, r⟩ := h
    cases e with
    | tup es =>
      unfold Rep at k
      obtain ⟨b, ys, e1, q2, r2⟩ := k
      cases e1
      have := I.tuple_inj q q2
      subst this
      rw [Reps.inj I ds es xs r r2]
    | lst es =>
      unfold Rep at k
      obtain ⟨b, ys, e1, q2, r2⟩ := k
      cases e1
      obtain ⟨i1, _, t1, _⟩ := I.tuple q
      obtain ⟨i2, _, t2, _⟩ := I.list q2
      exact absurd rfl (ne_of_list_tuple t2.isList (let ⟨o, h1, h2, n, h3⟩ := t1; ⟨o, h1, h2, n, h3⟩))
    | _ => simp [Rep] at k
  | .lst ds, e, v, h, k => by
    unfold Rep at h
    obtain ⟨a, xs, rfl, q, r⟩ := h
    cases e with
    | lst es =>
      unfold Rep at k
      obtain ⟨b, ys, e1, q2, r2⟩ := k
      cases e1
      have := I.list_inj q q2
      subst this
      rw [Reps.inj I ds es xs r r2]
    | tup es =>
      unfold Rep at k
      obtain ⟨b, ys, e1, q2, r2⟩ := k
      cases e1
      obtain ⟨i1, _, t1, _⟩ := I.tuple q2
      obtain ⟨i2, _, t2, _⟩ := I.list q
      exact absurd rfl (ne_of_list_tuple t2.isList (let ⟨o, h1, h2, n, h3⟩ := t1; ⟨o, h1, h2, n, h3⟩))
    | _ => simp [Rep] at k
theorem Reps.inj (I : Inv X pins σ H s) : ∀ (ds es : List D) (vs : List V), Reps X.K H ds vs → Reps X.K H es vs → ds = es
  | [], es, vs, h, k => by
    rw [h.inv0] at k
    cases es with
    | nil => rfl
    | cons e es => obtain ⟨_, _, z, _⟩ := k.inv; cases z
  | d :: ds, es, vs, h, k => by
    obtain ⟨v, r, rfl, q, t⟩ := h.inv
    cases es with
    | nil => have z := k.inv0; cases z
    | cons e es =>
      obtain ⟨_, _, z, q2, t2⟩ := k.inv
      cases z
      rw [Rep.inj I d e v q q2, Reps.inj I ds es r t t2]
end
end
end L3

/-! == and != and in over deep data. -/
namespace L3
open PySem PySem.Spec PyProof.Rows L2 PySem.SeqAt
section
variable {X : Cx} {pins : List (Addr × Obj)} {σ : L2.St} {H : Hp} {s : Shared} {A : Around}
theorem in1_units (A : Around) : A.in1.units = A.units + 1 := rfl
abbrev Elts (A : Around) (s : Shared) (xs ys : List V) (ds es : List D) : Prop :=
  ∀ us ws, Vals xs us → Vals ys ws → ∀ (j : Nat) v u, us[j]? = some v → ws[j]? = some u → EqAt A s v u (pickEq ds es j)
theorem rc_tup {a b : Addr} {xs ys : List V} {ds es : List D} (I : Inv X pins σ H s) (q : SqT X.K H a xs) (r : Reps X.K H ds xs) (q2 : SqT X.K H b ys) (r2 : Reps X.K H es ys) (hu : A.units < cLine) (he : Elts A.in1 s xs ys ds es) :
    RcAt A s (.ref a) (.ref b) (eqDs ds es) ∧ RcNeAt A s (.ref a) (.ref b) (!eqDs ds es) := by
  obtain ⟨us, rv, t1, _⟩ := I.tuple q
  obtain ⟨ws, rw', t2, _⟩ := I.tuple q2
  have l1 : us.toArray.size = ds.length := by rw [List.size_toArray, ← rv.length, r.length]
  have l2 : ws.toArray.size = es.length := by rw [List.size_toArray, ← rw'.length, r2.length]
  have el : ∀ j (h1 : j < us.toArray.size) (h2 : j < ws.toArray.size), EqAt A.in1 s us.toArray[j] ws.toArray[j] (pickEq ds es j) := fun j h1 h2 =>
    he us ws rv rw' j _ _ (by simp at h1 ⊢) (by simp at h2 ⊢)
  have e := RcAt.tuples (A := A) (s := s) (l := a) (b := b) t1 t2 hu el
  have n := RcNeAt.tuples (A := A) (s := s) (l := a) (b := b) t1 t2 hu el
  rw [l1, l2, ← eqDs_all] at e n
  exact ⟨e, n⟩
theorem rc_lst {a b : Addr} {xs ys : List V} {ds es : List D} (I : Inv X pins σ H s) (q : SqL X.K H a xs) (r : Reps X.K H ds xs) (q2 : SqL X.K H b ys) (r2 : Reps X.K H es ys) (hu : A.units < cLine) (he : Elts A.in1 s xs ys ds es) :
    RcAt A s (.ref a) (.ref b) (eqDs ds es) ∧ RcNeAt A s (.ref a) (.ref b) (!eqDs ds es) := by
  obtain ⟨us, rv, t1, _⟩ := I.list q
  obtain ⟨ws, rw', t2, _⟩ := I.list q2
  have l1 : us.toArray.size = ds.length := by rw [List.size_toArray, ← rv.length, r.length]
  have l2 : ws.toArray.size = es.length := by rw [List.size_toArray, ← rw'.length, r2.length]
  have el : ∀ j (h1 : j < us.toArray.size) (h2 : j < ws.toArray.size), EqAt A.in1 s us.toArray[j] ws.toArray[j] (pickEq ds es j) := fun j h1 h2 =>
    he us ws rv rw' j _ _ (by simp at h1 ⊢) (by simp at h2 ⊢)
  by_cases hl : ds.length = es.length
  · have e := RcAt.lists (A := A) (s := s) (l := a) (b := b) t1.isList t2.isList (by omega) hu el
    have n := RcNeAt.lists (A := A) (s := s) (l := a) (b := b) t1.isList t2.isList (by omega) hu el
    have z : eqDs ds es = (List.range ds.length).all (pickEq ds es) := by
      rw [eqDs_all, hl]; simp
    rw [l1, ← z] at e n
    exact ⟨e, n⟩
  · have hs : (us.toArray.size != ws.toArray.size) = true := by rw [l1, l2]; simpa using hl
    have e := RcAt.lists_lengths (A := A) (s := s) (l := a) (b := b) t1.isList t2.isList hs hu
    have n := RcNeAt.lists_lengths (A := A) (s := s) (l := a) (b := b) t1.isList t2.isList hs hu
    have z : eqDs ds es = false := by
      rw [eqDs_all]; simp [hl]
    rw [z]
    exact ⟨e, n⟩
mutual
theorem eqAtD (I : Inv X pins σ H s) : ∀ (d e : D) (A : Around) (v u : V) (v' u' : Value), Rep X.K H d v → Rep X.K H e u → RelV v v' → RelV u u' → A.units + deep d < cLine → EqAt A s v' u' (eqD d e)
  | .non, e, A, v, u, v', u', hd, he, rv, ru, hu => by
    unfold Rep at hd; subst hd; cases rv
    cases e <;> unfold Rep at he
    · subst he; cases ru; exact EqAt.same _
    · subst he; cases ru; exact EqAt.none_bool _
    · subst he; obtain ⟨t, rfl⟩ := ru; exact EqAt.none_int _ _
    · subst he; obtain ⟨t, rfl⟩ := ru; exact EqAt.none_str _ _
    · obtain ⟨a, xs, rfl, q, _⟩ := he; cases ru; obtain ⟨_, _, t, _⟩ := I.tuple q; exact EqAt.none_tuple t (by omega)
    · obtain ⟨a, xs, rfl, q, _⟩ := he; cases ru; obtain ⟨_, _, t, _⟩ := I.list q; exact EqAt.none_list t.isList (by omega)
  | .bl b, e, A, v, u, v', u', hd, he, rv, ru, hu => by
    unfold Rep at hd; subst hd; cases rv
    cases e <;> unfold Rep at he
    · subst he; cases ru; exact EqAt.bool_none _
    · subst he; cases ru; exact EqAt.bool_bool _ _
    · subst he; obtain ⟨t, rfl⟩ := ru; exact EqAt.bool_int _ _ _
    · subst he; obtain ⟨t, rfl⟩ := ru; exact EqAt.bool_str _ _ _
    · obtain ⟨a, xs, rfl, q, _⟩ := he; cases ru; obtain ⟨_, _, t, _⟩ := I.tuple q; exact EqAt.bool_tuple _ t (by omega)
    · obtain ⟨a, xs, rfl, q, _⟩ := he; cases ru; obtain ⟨_, _, t, _⟩ := I.list q; exact EqAt.bool_list _ t.isList (by omega)
  | .int i, e, A, v, u, v', u', hd, he, rv, ru, hu => by
    unfold Rep at hd; subst hd; obtain ⟨t0, rfl⟩ := rv
    cases e <;> unfold Rep at he
    · subst he; cases ru; exact EqAt.int_none _ _
    · subst he; cases ru; exact EqAt.int_bool _ _ _
    · subst he; obtain ⟨t, rfl⟩ := ru; exact EqAt.int_int _ _ _ _
    · subst he; obtain ⟨t, rfl⟩ := ru; exact EqAt.int_str _ _ _ _
    · obtain ⟨a, xs, rfl, q, _⟩ := he; cases ru; obtain ⟨_, _, t, _⟩ := I.tuple q; exact EqAt.int_tuple _ _ t (by omega)
    · obtain ⟨a, xs, rfl, q, _⟩ := he; cases ru; obtain ⟨_, _, t, _⟩ := I.list q; exact EqAt.int_list _ _ t.isList (by omega)
  | .str x, e, A, v, u, v', u', hd, he, rv, ru, hu => by
    unfold Rep at hd; subst hd; obtain ⟨t0, rfl⟩ := rv
    cases e <;> unfold Rep at he
    · subst he; cases ru; exact EqAt.str_none _ _
    · subst he; cases ru; exact EqAt.str_bool _ _ _
    · subst he; obtain ⟨t, rfl⟩ := ru; exact EqAt.str_int _ _ _ _
    · subst he; obtain ⟨t, rfl⟩ := ru; exact EqAt.str_str _ _ _ _
    · obtain ⟨a, xs, rfl, q, _⟩ := he; cases ru; obtain ⟨_, _, t, _⟩ := I.tuple q; exact EqAt.str_tuple _ _ t (by omega)
    · obtain ⟨a, xs, rfl, q, _⟩ := he; cases ru; obtain ⟨_, _, t, _⟩ := I.list q; exact EqAt.str_list _ _ t.isList (by omega)
  | .tup ds, e, A, v, u, v', u', hd, he, rv, ru, hu => by
    have hd0 := hd
    have he0 := he
    unfold Rep at hd
    obtain ⟨a, xs, rfl, q, r⟩ := hd
    cases rv
    rw [deep] at hu
    obtain ⟨_, _, t0, _⟩ := I.tuple q
    cases e <;> unfold Rep at he
    · subst he; cases ru; exact EqAt.tuple_none t0 (by omega)
    · subst he; cases ru; exact EqAt.tuple_bool _ t0 (by omega)
    · subst he; obtain ⟨t, rfl⟩ := ru; exact EqAt.tuple_int _ _ t0 (by omega)
    · subst he; obtain ⟨t, rfl⟩ := ru; exact EqAt.tuple_str _ _ t0 (by omega)
    · rename_i es
      obtain ⟨b, ys, rfl, q2, r2⟩ := he
      cases ru
      by_cases hab : a = b
      · subst hab
        rw [Rep.inj I _ _ _ hd0 he0, eqD_refl]
        exact EqAt.same _
      · rw [eqD]
        exact EqAt.of_refs hab (rc_tup I q r q2 r2 (by omega) fun us ws w1 w2 j v u e1 e2 => eqAtDs I ds es A.in1 xs ys us ws r r2 w1 w2 (by rw [in1_units]; omega) j v u e1 e2).1
    · obtain ⟨b, ys, rfl, q2, r2⟩ := he
      cases ru
      obtain ⟨_, _, t, _⟩ := I.list q2
      exact EqAt.tuple_list t0 t.isList (by omega)
  | .lst ds, e, A, v, u, v', u', hd, he, rv, ru, hu => by
    have hd0 := hd
    have he0 := he
    unfold Rep at hd
    obtain ⟨a, xs, rfl, q, r⟩ := hd
    cases rv
    rw [deep] at hu
    obtain ⟨_, _, t0, _⟩ := I.list q
    cases e <;> unfold Rep at he
    · subst he; cases ru; exact EqAt.list_none t0.isList (by omega)
    · subst he; cases ru; exact EqAt.list_bool _ t0.isList (by omega)
    · subst he; obtain ⟨t, rfl⟩ := ru; exact EqAt.list_int _ _ t0.isList (by omega)
    · subst he; obtain ⟨t, rfl⟩ := ru; exact EqAt.list_str _ _ t0.isList (by omega)
    · obtain ⟨b, ys, rfl, q2, r2⟩ := he
      cases ru
      obtain ⟨_, _, t, _⟩ := I.tuple q2
      exact EqAt.list_tuple t0.isList t (by omega)
    · rename_i es
      obtain ⟨b, ys, rfl, q2, r2⟩ := he
      cases ru
      by_cases hab : a = b
      · subst hab
        rw [Rep.inj I _ _ _ hd0 he0, eqD_refl]
        exact EqAt.same _
      · rw [eqD]
        exact EqAt.of_refs hab (rc_lst I q r q2 r2 (by omega) fun us ws w1 w2 j v u e1 e2 => eqAtDs I ds es A.in1 xs ys us ws r r2 w1 w2 (by rw [in1_units]; omega) j v u e1 e2).1
theorem eqAtDs (I : Inv X pins σ H s) : ∀ (ds es : List D) (A : Around) (xs ys : List V) (us ws : List Value), Reps X.K H ds xs → Reps X.K H es ys → Vals xs us → Vals ys ws → A.units + deeps ds < cLine →
    ∀ (j : Nat) v u, us[j]? = some v → ws[j]? = some u → EqAt A s v u (pickEq ds es j)
  | [], es, A, xs, ys, us, ws, hd, he, rv, ru, hu, j, v, u, e1, e2 => by
    rw [hd.inv0] at rv; cases rv; simp at e1
  | d :: ds, [], A, xs, ys, us, ws, hd, he, rv, ru, hu, j, v, u, e1, e2 => by
    rw [he.inv0] at ru; cases ru; simp at e2
  | d :: ds, e :: es, A, xs, ys, us, ws, hd, he, rv, ru, hu, j, v, u, e1, e2 => by
    obtain ⟨x, xs, rfl, hx, hxs⟩ := hd.inv
    obtain ⟨y, ys, rfl, hy, hys⟩ := he.inv
    rw [deeps] at hu
    cases rv with
    | cons rv1 rv2 =>
      cases ru with
      | cons ru1 ru2 =>
        cases j with
        | zero =>
          simp at e1 e2
          subst e1 e2
          have p : pickEq (d :: ds) (e :: es) 0 = eqD d e := by simp [pickEq]
          rw [p]
          exact eqAtD I d e A x y _ _ hx hy rv1 ru1 (by omega)
        | succ j =>
          have p : pickEq (d :: ds) (e :: es) (j + 1) = pickEq ds es j := by simp [pickEq]
          rw [p]
          exact eqAtDs I ds es A xs ys _ _ hxs hys rv2 ru2 (by omega) j v u (by simpa using e1) (by simpa using e2)
end
theorem rcD (I : Inv X pins σ H s) (d e : D) {v u : V} {v' u' : Value} (hd : Rep X.K H d v) (he : Rep X.K H e u) (rv : RelV v v') (ru : RelV u u') (hu : A.units + deep d < cLine) : RcAt A s v' u' (eqD d e) ∧ RcNeAt A s v' u' (!eqD d e) := by
  cases d with
  | non =>
    unfold Rep at hd
    subst hd; cases rv
    cases e with
    | non =>
      unfold Rep at he
      subst he; cases ru
      exact ⟨RcAt.none_none , RcNeAt.none_none ⟩
    | bl b1 =>
      unfold Rep at he
      subst he; cases ru
      exact ⟨RcAt.none_bool _ , RcNeAt.none_bool _ ⟩
    | int i1 =>
      unfold Rep at he
      subst he; obtain ⟨t1, rfl⟩ := ru
      exact ⟨RcAt.none_int _ _ , RcNeAt.none_int _ _ ⟩
    | str x1 =>
      unfold Rep at he
      subst he; obtain ⟨t1, rfl⟩ := ru
      exact ⟨RcAt.none_str _ _ , RcNeAt.none_str _ _ ⟩
    | tup es =>
      unfold Rep at he
      obtain ⟨b, ys, rfl, q2, r2⟩ := he
      cases ru
      obtain ⟨_, _, t1, _⟩ := I.tuple q2
      exact ⟨RcAt.none_tuple t1 (by omega), RcNeAt.none_tuple t1 (by omega)⟩
    | lst es =>
      unfold Rep at he
      obtain ⟨b, ys, rfl, q2, r2⟩ := he
      cases ru
      obtain ⟨_, _, t1, _⟩ := I.list q2
      exact ⟨RcAt.none_list t1.isList (by omega), RcNeAt.none_list t1.isList (by omega)⟩
  | bl b0 =>
    unfold Rep at hd
    subst hd; cases rv
    cases e with
    | non =>
      unfold Rep at he
      subst he; cases ru
      exact ⟨RcAt.bool_none _ , RcNeAt.bool_none _ ⟩
    | bl b1 =>
      unfold Rep at he
      subst he; cases ru
      exact ⟨RcAt.bool_bool _ _ , RcNeAt.bool_bool _ _ ⟩
    | int i1 =>
      unfold Rep at he
      subst he; obtain ⟨t1, rfl⟩ := ru
      exact ⟨RcAt.bool_int _ _ _ , RcNeAt.bool_int _ _ _ ⟩
    | str x1 =>
      unfold Rep at he
      subst he; obtain ⟨t1, rfl⟩ := ru
      exact ⟨RcAt.bool_str _ _ _ , RcNeAt.bool_str _ _ _ ⟩
    | tup es =>
      unfold Rep at he
      obtain ⟨b, ys, rfl, q2, r2⟩ := he
      cases ru
      obtain ⟨_, _, t1, _⟩ := I.tuple q2
      exact ⟨RcAt.bool_tuple _ t1 (by omega), RcNeAt.bool_tuple _ t1 (by omega)⟩
    | lst es =>
      unfold Rep at he
      obtain ⟨b, ys, rfl, q2, r2⟩ := he
      cases ru
      obtain ⟨_, _, t1, _⟩ := I.list q2
      exact ⟨RcAt.bool_list _ t1.isList (by omega), RcNeAt.bool_list _ t1.isList (by omega)⟩
  | int i0 =>
    unfold Rep at hd
    subst hd; obtain ⟨t0, rfl⟩ := rv
    cases e with
    | non =>
      unfold Rep at he
      subst he; cases ru
      exact ⟨RcAt.int_none _ _ , RcNeAt.int_none _ _ ⟩
    | bl b1 =>
      unfold Rep at he
      subst he; cases ru
      exact ⟨RcAt.int_bool _ _ _ , RcNeAt.int_bool _ _ _ ⟩
    | int i1 =>
      unfold Rep at he
      subst he; obtain ⟨t1, rfl⟩ := ru
      exact ⟨RcAt.int_int _ _ _ _ , RcNeAt.int_int _ _ _ _ ⟩
    | str x1 =>
      unfold Rep at he
      subst he; obtain ⟨t1, rfl⟩ := ru
      exact ⟨RcAt.int_str _ _ _ _ , RcNeAt.int_str _ _ _ _ ⟩
    | tup es =>
      unfold Rep at he
      obtain ⟨b, ys, rfl, q2, r2⟩ := he
      cases ru
      obtain ⟨_, _, t1, _⟩ := I.tuple q2
      exact ⟨RcAt.int_tuple _ _ t1 (by omega), RcNeAt.int_tuple _ _ t1 (by omega)⟩
    | lst es =>
      unfold Rep at he
      obtain ⟨b, ys, rfl, q2, r2⟩ := he
      cases ru
      obtain ⟨_, _, t1, _⟩ := I.list q2
      exact ⟨RcAt.int_list _ _ t1.isList (by omega), RcNeAt.int_list _ _ t1.isList (by omega)⟩
  | str x0 =>
    unfold Rep at hd
    subst hd; obtain ⟨t0, rfl⟩ := rv
    cases e with
    | non =>
      unfold Rep at he
      subst he; cases ru
      exact ⟨RcAt.str_none _ _ , RcNeAt.str_none _ _ ⟩
    | bl b1 =>
      unfold Rep at he
      subst he; cases ru
      exact ⟨RcAt.str_bool _ _ _ , RcNeAt.str_bool _ _ _ ⟩
    | int i1 =>
      unfold Rep at he
      subst he; obtain ⟨t1, rfl⟩ := ru
      exact ⟨RcAt.str_int _ _ _ _ , RcNeAt.str_int _ _ _ _ ⟩
    | str x1 =>
      unfold Rep at he
      subst he; obtain ⟨t1, rfl⟩ := ru
      exact ⟨RcAt.str_str _ _ _ _ , RcNeAt.str_str _ _ _ _ ⟩
    | tup es =>
      unfold Rep at he
      obtain ⟨b, ys, rfl, q2, r2⟩ := he
      cases ru
      obtain ⟨_, _, t1, _⟩ := I.tuple q2
      exact ⟨RcAt.str_tuple _ _ t1 (by omega), RcNeAt.str_tuple _ _ t1 (by omega)⟩
    | lst es =>
      unfold Rep at he
      obtain ⟨b, ys, rfl, q2, r2⟩ := he
      cases ru
      obtain ⟨_, _, t1, _⟩ := I.list q2
      exact ⟨RcAt.str_list _ _ t1.isList (by omega), RcNeAt.str_list _ _ t1.isList (by omega)⟩
  | tup ds =>
    unfold Rep at hd
    obtain ⟨a, xs, rfl, q, r⟩ := hd
    cases rv
    rw [deep] at hu
    obtain ⟨_, _, t0, _⟩ := I.tuple q
    cases e with
    | non =>
      unfold Rep at he
      subst he; cases ru
      exact ⟨RcAt.tuple_none t0 (by omega), RcNeAt.tuple_none t0 (by omega)⟩
    | bl b1 =>
      unfold Rep at he
      subst he; cases ru
      exact ⟨RcAt.tuple_bool _ t0 (by omega), RcNeAt.tuple_bool _ t0 (by omega)⟩
    | int i1 =>
      unfold Rep at he
      subst he; obtain ⟨t1, rfl⟩ := ru
      exact ⟨RcAt.tuple_int _ _ t0 (by omega), RcNeAt.tuple_int _ _ t0 (by omega)⟩
    | str x1 =>
      unfold Rep at he
      subst he; obtain ⟨t1, rfl⟩ := ru
      exact ⟨RcAt.tuple_str _ _ t0 (by omega), RcNeAt.tuple_str _ _ t0 (by omega)⟩
    | tup es =>
      unfold Rep at he
      obtain ⟨b, ys, rfl, q2, r2⟩ := he
      cases ru
      obtain ⟨_, _, t1, _⟩ := I.tuple q2
      have z := rc_tup I q r q2 r2 (A := A) (by omega) fun us ws w1 w2 j v u e1 e2 => eqAtDs I ds es A.in1 xs ys us ws r r2 w1 w2 (by rw [in1_units]; omega) j v u e1 e2
      rw [eqD]; exact z
    | lst es =>
      unfold Rep at he
      obtain ⟨b, ys, rfl, q2, r2⟩ := he
      cases ru
      obtain ⟨_, _, t1, _⟩ := I.list q2
      exact ⟨RcAt.tuple_list t0 t1.isList (by omega), RcNeAt.tuple_list t0 t1.isList (by omega)⟩
  | lst ds =>
    unfold Rep at hd
    obtain ⟨a, xs, rfl, q, r⟩ := hd
    cases rv
    rw [deep] at hu
    obtain ⟨_, _, t0, _⟩ := I.list q
    cases e with
    | non =>
      unfold Rep at he
      subst he; cases ru
      exact ⟨RcAt.list_none t0.isList (by omega), RcNeAt.list_none t0.isList (by omega)⟩
    | bl b1 =>
      unfold Rep at he
      subst he; cases ru
      exact ⟨RcAt.list_bool _ t0.isList (by omega), RcNeAt.list_bool _ t0.isList (by omega)⟩
    | int i1 =>
      unfold Rep at he
      subst he; obtain ⟨t1, rfl⟩ := ru
      exact ⟨RcAt.list_int _ _ t0.isList (by omega), RcNeAt.list_int _ _ t0.isList (by omega)⟩
    | str x1 =>
      unfold Rep at he
      subst he; obtain ⟨t1, rfl⟩ := ru
      exact ⟨RcAt.list_str _ _ t0.isList (by omega), RcNeAt.list_str _ _ t0.isList (by omega)⟩
    | tup es =>
      unfold Rep at he
      obtain ⟨b, ys, rfl, q2, r2⟩ := he
      cases ru
      obtain ⟨_, _, t1, _⟩ := I.tuple q2
      exact ⟨RcAt.list_tuple t0.isList t1 (by omega), RcNeAt.list_tuple t0.isList t1 (by omega)⟩
    | lst es =>
      unfold Rep at he
      obtain ⟨b, ys, rfl, q2, r2⟩ := he
      cases ru
      obtain ⟨_, _, t1, _⟩ := I.list q2
      have z := rc_lst I q r q2 r2 (A := A) (by omega) fun us ws w1 w2 j v u e1 e2 => eqAtDs I ds es A.in1 xs ys us ws r r2 w1 w2 (by rw [in1_units]; omega) j v u e1 e2
      rw [eqD]; exact z
def rEqD (K : PySem.W.Frag) : R2 := fun x y H Q => ∃ d e, Rep K H d x ∧ Rep K H e y ∧ deep d ≤ 60 ∧ Q (.bl (eqD d e)) H
def rNeD (K : PySem.W.Frag) : R2 := fun x y H Q => ∃ d e, Rep K H d x ∧ Rep K H e y ∧ deep d ≤ 60 ∧ Q (.bl (!eqD d e)) H
theorem op_eqD (hu : X.A.units + 64 < cLine) : OpR X (compareOp .Eq) (rEqD X.K) := by
  intro pins s σ H x y v u Q I rx ry h
  obtain ⟨d, e, hd, he, hz, q⟩ := h
  exact (rcD (A := X.A) I d e hd he rx ry (by omega)).1 X.prog X.w X.xe _ ⟨.bl (eqD d e), H, I, rfl, q⟩
theorem op_neD (hu : X.A.units + 64 < cLine) : OpR X (compareOp .NotEq) (rNeD X.K) := by
  intro pins s σ H x y v u Q I rx ry h
  obtain ⟨d, e, hd, he, hz, q⟩ := h
  exact (rcD (A := X.A) I d e hd he rx ry (by omega)).2 X.prog X.w X.xe _ ⟨.bl (!eqD d e), H, I, rfl, q⟩
noncomputable def absD (K : PySem.W.Frag) (H : Hp) (u : Value) : D := by
  classical exact if h : ∃ d v, RelV v u ∧ Rep K H d v then h.choose else .non
theorem absD_eq {d : D} {v : V} {u : Value} (I : Inv X pins σ H s) (r : RelV v u) (h : Rep X.K H d v) : absD X.K H u = d := by
  have hx : ∃ d v, RelV v u ∧ Rep X.K H d v := ⟨d, v, r, h⟩
  unfold absD
  rw [dif_pos hx]
  obtain ⟨v2, r2, h2⟩ := hx.choose_spec
  have := r2.inj r
  subst this
  exact Rep.inj I _ _ _ h2 h
theorem any_vals {K : PySem.W.Frag} {H : Hp} {d : D} (f : Value → D) : ∀ {ds : List D} {xs : List V} {us : List Value}, Reps K H ds xs → Vals xs us → (∀ d v u, Rep K H d v → RelV v u → f u = d) → (us.any fun u => eqD (f u) d) = ds.any fun e => eqD e d
  | [], _, _, h, rv, _ => by rw [h.inv0] at rv; cases rv; rfl
  | e :: ds, _, _, h, rv, hf => by
    obtain ⟨v, r, rfl, q, t⟩ := h.inv
    cases rv with
    | cons r1 r2 => rw [List.any_cons, List.any_cons, hf _ _ _ q r1, any_vals f t r2 hf]
theorem mem_rep {K : PySem.W.Frag} {H : Hp} : ∀ {ds : List D} {xs : List V} {us : List Value}, Reps K H ds xs → Vals xs us → ∀ u ∈ us, ∃ d v, Rep K H d v ∧ RelV v u ∧ deep d ≤ deeps ds
  | [], _, _, h, rv, u, hu => by rw [h.inv0] at rv; cases rv; cases hu
  | e :: ds, _, _, h, rv, u, hu => by
    obtain ⟨v, r, rfl, q, t⟩ := h.inv
    cases rv with
    | cons r1 r2 =>
      rw [deeps]
      rcases List.mem_cons.mp hu with z | z
      · subst z; exact ⟨e, v, q, r1, by omega⟩
      · obtain ⟨d, w', a, b, c⟩ := mem_rep t r2 u z
        exact ⟨d, w', a, b, by omega⟩
def rInD (K : PySem.W.Frag) (neg : Bool) : R2 := fun x y H Q => ∃ d p xs ds, Rep K H d x ∧ y = .ref p ∧ SqL K H p xs ∧ Reps K H ds xs ∧ deeps ds ≤ 60 ∧ Q (.bl (if neg then !ds.any (fun e => eqD e d) else ds.any fun e => eqD e d)) H
theorem op_notInD (hu : X.A.units + 64 < cLine) : OpR X (compareOp .NotIn) (rInD X.K true) := by
  intro pins s σ H x y v u Q I rx ry h
  obtain ⟨d, p, xs, ds, hd, rfl, hq, hr, hz, q⟩ := h
  cases ry
  obtain ⟨its, rv, t, _⟩ := I.list hq
  refine notIn_listAt (fun u => eqD (absD X.K H u) d) t.isList (fun z hz' => ?_) ?_
  · obtain ⟨e, w', a, b, c⟩ := mem_rep hr rv z (by simpa using hz')
    have := eqAtD I e d X.A.in1 w' x z v a hd b rx (by rw [in1_units]; omega)
    rw [absD_eq I b a]
    exact this
  · refine ⟨.bl _, H, I, rfl, ?_⟩
    have e := any_vals (d := d) (absD X.K H) hr rv fun d v u a b => absD_eq I b a
    have e2 : (its.toArray.any fun u => eqD (absD X.K H u) d) = ds.any fun e => eqD e d := by rw [← e]; simp
    rw [e2]; exact q
end
end L3

/-! [e for x in xs], [e for x in xs if c]: the block runs in a context of its own; no exception leaves it. -/
namespace L3
open PySem PySem.Spec PyProof.Rows L2
def blk (X : Cx) (scope : Scope) (cl : List (Str × Addr)) (N' : List Str) (C : Addr) (s₀ : Shared) (H₀ : Hp) (ex : List Addr) (pn : List (Addr × Obj)) : Cx where
  prog := X.prog
  w := X.w
  K := X.K
  mg := X.mg
  base := X.base
  A := X.A
  N := N'
  s₀ := s₀
  H₀ := H₀
  env := compEnvC scope cl C X.env
  outer := X.stack
  stack := X.stack
  ex := ex
  fn := fun _ => false
  calm := X.calm
  pn := pn
  xe := fun _ _ => False
abbrev lobj (its : List Value) : Obj := { cls := .type "list", data := .seq its.toArray its.length }
section
variable {X : Cx} {pins : List (Addr × Obj)} {σ : L2.St} {H : Hp} {s : Shared}
def PF (X : Cx) (ifs : List Expr) (t : TT) : Prop := ∀ (pins : List (Addr × Obj)) (s : Shared) (σ : L2.St) (H : Hp) (Q : Bool → Hp → Prop), Inv X pins σ H s → t σ H Q →
  wpAny (model X.prog X.w) X.A (forIn ifs true fun c r => if r = true then do let ok ← isTrue c X.env (eval c X.env); pure (ForInStep.yield ok) else pure (ForInStep.yield r)) (TP X pins σ Q) X.xe s
def tTrue : TT := fun _ H Q => Q true H
theorem pf_nil : PF X [] tTrue := fun _ _ _ H _ I h => wpAny_tests_nil ⟨H, I, h⟩
theorem pf_one {c : Expr} {t : TT} (h : PT X c t) : PF X [c] t := fun pins s σ H Q I hq => wpAny_tests_one (h pins s σ H Q I hq)

theorem Inv.track {D : Addr} {ys : List V} {its : List Value} (I : Inv X pins σ H s) (hD : H D = none) (ho : s.heap.get? D = some (lobj its)) (hv : Vals ys its) (hz : ys.length ≤ sizeLine)
    (h1 : D ∈ X.ex ∨ X.s₀.heap.objs.size ≤ D) (h2 : D ≠ X.env.locals) (h3 : ∀ x c, X.env.cells.lookup x = some c → c ≠ D) (h4 : ∀ p ∈ X.pn ++ pins, p.1 ≠ D) : Inv X pins σ (upd H D (.lst ys)) s := by
  have old : ∀ b u, H b = some u → upd H D (.lst ys) b = some u := fun b u e => by rw [upd_ne (ne_of_none e hD)]; exact e
  refine I.step (g' := s.gens) (t' := s.toks) (d' := s.drawn) (h' := s.heap) (ch := [D]) (fun b hb => ?_) (fun b o _ _ _ e _ => e) (fun b o _ _ _ e _ => ⟨o.slots, e⟩) (fun b o hb _ n => ?_) (fun b o _ e => ⟨o, e⟩)
    (fun b xs e => old b _ e) (fun b o u e => old b _ e) (fun b ps e => ⟨#[], by rw [old b _ e]; simp⟩) (fun m hm => hm) (fun b u e => ?_) I.bare
  · have e : b = D := by simpa using hb
    subst e
    exact ⟨h1, h2, h3, h4⟩
  · rw [upd_ne (by simpa using hb)]; exact n
  · by_cases hb : b = D
    · subst hb
      rw [upd_same] at e; cases e
      exact ⟨hz, its, its.length, hv, ho⟩
    · rw [upd_ne hb] at e
      exact (I.hok b u e).stay (fun c v _ q => q) (fun c q => old c _ q) fun c xs q => old c _ q

def lend (js : List (Option Nat)) (σ : L2.St) : L2.St := js.map fun o => o.bind fun j => (σ[j]?).join
structure Blk (X : Cx) (scope : Scope) (cl : List (Str × Addr)) (N' : List Str) (js : List (Option Nat)) : Prop where
  clos : closureFor scope X.env = pure cl
  nocell : ∀ y ∈ scope.names, y.2 ≠ .cell
  kind : scope.kind = .function
  names : ∀ y ∈ scope.names, y.2 = .local → scope.names.lookup y.1 = some .local
  sub : ∀ y c, cl.lookup y = some c → X.env.cells.lookup y = some c
  has : ∀ y, ((relabel scope X.env).names.lookup y = some .cell ∨ (relabel scope X.env).names.lookup y = some .free) → ∃ c, cl.lookup y = some c
  len : js.length = N'.length
  lent : ∀ (i : Nat) y j, N'[i]? = some y → js[i]? = some (some j) → X.N[j]? = some y ∧ Vis X.env.scope y ∧ X.env.scope.names.lookup y ≠ some .local ∧ (relabel scope X.env).names.lookup y ≠ some .local

theorem blk_inv {scope : Scope} {cl : List (Str × Addr)} {N' : List Str} {js : List (Option Nat)} {fp : List Addr} {C : Addr} {h1 : Heap} {m : Str → Option Value} {tk : Nat} (B : Blk X scope cl N' js) (I : Inv X pins σ H s) (f : ∀ b ∈ fp, FpOk X pins H b)
    (fo : ∀ b ∈ fp, ∃ o, s.heap.get? b = some o) (old : ∀ b o, s.heap.get? b = some o → h1.get? b = some o) (hns : h1.Ns C m) (hC : s.heap.objs.size ≤ C) :
    Inv (blk X scope cl N' C s H fp (X.pn ++ pins)) [] (lend js σ) H { s with heap := h1, toks := tk } := by
  have ltC : ∀ b o, s.heap.get? b = some o → b ≠ C := fun b o e => Nat.ne_of_lt (Nat.lt_of_lt_of_le (Heap.lt_size e) hC)
  refine ⟨⟨I.ok.mod, B.kind, I.ok.glob, I.ok.blt, hC, fun y z c e1 e2 => I.ok.inj y z c (B.sub y c e1) (B.sub z c e2), fun y hy => B.has y hy, (fun y c e => nomatch e), I.ok.hd, I.ok.frames, .inl rfl, fun b hb => ?_, I.bs, ?_, fun b o e hb => ?_, fun b hb hs => ?_, I.stack, I.stkFree⟩,
    rfl, I.bare, Un.kept old, ⟨m, hns, fun i y v e1 e2 e3 => ?_⟩, fun y c e => ?_, I.hok.fresh hC, fun y c e => I.freeC y c (B.sub y c e), fun p hp => ?_, I.hok.kept old, ?_⟩
  · obtain ⟨o, e⟩ := fo b hb
    exact ⟨ltC b o e, fun y c q => (f b hb).2.2.2.2.1 y c (B.sub y c q)⟩
  · exact Nat.le_trans I.ok.bsz I.sz
  · rcases (f b hb).2.2.2.1 with z | z
    · exact I.ok.noex b o e z
    · exact absurd (Nat.lt_of_lt_of_le (Heap.lt_size (I.ok.bs b o e).1) z) (Nat.lt_irrefl _)
  · rcases List.mem_cons.mp (I.stkSub b hs) with z | z
    · exact (f b hb).2.1 z
    · exact (f b hb).2.2.1 z
  · have e2' : (lend js σ)[i]? = some (some v) := e2
    unfold lend at e2'
    rw [List.getElem?_map] at e2'
    cases ej : js[i]? with
    | none => rw [ej] at e2'; cases e2'
    | some o =>
      rw [ej] at e2'
      cases o with
      | none => cases e2'
      | some j =>
        obtain ⟨n1, n2, n3, n4⟩ := B.lent i y j e1 ej
        have es : σ[j]? = some (some v) := by
          cases q : σ[j]? with
          | none => rw [show (some (some j)).map _ = _ from rfl] at e2'; simp [q] at e2'
          | some z => simp [q] at e2'; rw [e2']
        obtain ⟨m0, hn0, hl0⟩ := I.loc
        obtain ⟨u, r, l⟩ := hl0 j y v n1 es n2
        refine ⟨u, r, ?_⟩
        rcases l with ⟨k, _⟩ | ⟨k, c, ec, z⟩
        · exact absurd k n3
        · have k' : (relabel scope X.env).names.lookup y = some .cell ∨ (relabel scope X.env).names.lookup y = some .free := by
            rcases e3 with q | q
            · exact absurd q n4
            · exact q
          obtain ⟨c', ec'⟩ := B.has y k'
          have := B.sub y c' ec'
          rw [ec] at this; cases this
          obtain ⟨oc, hoc, hd⟩ := z
          exact .inr ⟨k', c, ec', oc, old _ _ hoc, hd⟩
  · obtain ⟨v, oc, hoc, hd⟩ := I.cell y c (B.sub y c e)
    exact ⟨v, oc, old _ _ hoc, hd⟩
  · have hp' : p ∈ X.pn ++ pins := by simpa [blk] using hp
    obtain ⟨e, n, ne, nf, d⟩ := I.pin p hp'
    refine ⟨old _ _ e, n, ltC _ _ e, fun hs => ?_, d⟩
    rcases List.mem_cons.mp (I.stkSub p.1 hs) with z | z
    · exact ne z
    · exact nf z
  · show (lend js σ).length = N'.length
    unfold lend
    rw [List.length_map, B.len]

theorem codeAny_compLoop_any {prog : Program} {w : World} {A : Around} {R : Result → Shared → Prop} {s : Shared} {elt target iter : Expr} {ifs : List Expr} {scope : Scope} {pos : Pos} {it acc : Value} {env : Env} (I : Nat → Shared → Prop)
    (turn : ∀ n s, I n s → wpAny (model prog w) A (pyNext it) (fun r s₁ => match r with
      | none => R (.ok .next) s₁
      | some v => wpAny (model prog w) A (letOwnedTupleGo target it v) (fun _ s₁' => wpAny (model prog w) A (assign target env v) (fun _ s₂ =>
          wpAny (model prog w) A (forIn ifs true fun c r => if r = true then do let ok ← isTrue c env (eval c env); pure (ForInStep.yield ok) else pure (ForInStep.yield r)) (fun ok s₃ =>
            if ok = true then wpAny (model prog w) A (eval elt env) (fun x s₄ =>
              wpAny (model prog w) A (call (.builtin "list.append") [acc, x]) (fun _ s₅ => ∃ m, m < n ∧ I m s₅) (fun _ _ => False) s₄) (fun _ _ => False) s₃
            else ∃ m, m < n ∧ I m s₃) (fun _ _ => False) s₂) (fun _ _ => False) s₁') (fun _ _ => False) s₁) (fun _ _ => False) s)
    (n : Nat) (h : I n s) :
    codeAny (model prog w) A (.compLoop (.ListComp elt [⟨target, iter, ifs, 0⟩] scope pos) 0 it acc env) R s := by
  refine codeAny_loop rfl I (fun n s hI => ?_) n h
  show wpAny _ A ((compTurn (.ListComp elt [⟨target, iter, ifs, 0⟩] scope pos) 0 it acc env).onRaise (fun x => do noteFrame x env; theTreesLotGoes x)) _ _ s
  refine wpAny_noted ?_
  rw [compTurn_list]
  refine wpAny_bind (wpAny_standAt (wpAny_bind (wpAny_mono (turn n s hI) (fun r s₁ h₁ => ?_) fun _ _ f => f.elim)))
  cases r with
  | none => exact wpAny_pure h₁
  | some v =>
    refine wpAny_bind (wpAny_mono h₁ (fun _ s₁' h₁' => ?_) fun _ _ f => f.elim)
    refine wpAny_bind (wpAny_mono h₁' (fun _ s₂ h₂ => wpAny_bind (wpAny_mono h₂ (fun ok s₃ h₃ => ?_) fun _ _ f => f.elim)) fun _ _ f => f.elim)
    cases ok with
    | false => exact wpAny_pure ⟨rfl, h₃⟩
    | true =>
      exact wpAny_bind (wpAny_bind (wpAny_mono h₃ (fun x s₄ h₄ => wpAny_bind (wpAny_mono h₄ (fun _ s₅ h₅ => wpAny_pure (wpAny_pure ⟨rfl, h₅⟩)) fun _ _ f => f.elim)) fun _ _ f => f.elim))

def CompGo (J : It) (g : TG) (tf : TT) (te : TE) (Q : VK) (τ0 : L2.St) (H1 : Hp) : Prop := ∃ W : Nat → Nat → List V → L2.St → Hp → Prop, (∃ m, W 0 m [] τ0 H1) ∧ ∀ i m ys τ H, W i m ys τ H →
  (J.stop i H ∧ ∀ p, H p = none → Q (.ref p) (upd H p (.lst ys))) ∨ (J.go i H ∧ ∃ Nx : List V → L2.St → Hp → Prop, (∀ ys' τ' H', Nx ys' τ' H' → ∃ m', m' < m ∧ W (i + 1) m' ys' τ' H') ∧
    ∀ v H', J.yld i H v H' → g v τ H' fun τ2 H2 => tf τ2 H2 fun b H3 => if b = true then te τ2 H3 fun y H4 => ys.length < sizeLine ∧ Nx (ys ++ [y]) τ2 H4 else Nx ys τ2 H3)
def tComp (js : List (Option Nat)) (wi : TI) (g : TG) (tf : TT) (te : TE) : TE := fun σ H Q => wi σ H fun J H1 => CompGo J g tf te Q (lend js σ) H1
theorem comp_core {elt iter tg : Expr} {ifs : List Expr} {scope : Scope} {pos : Pos} {cl : List (Str × Addr)} {N' : List Str} {js : List (Option Nat)} {g : TG} {tf : TT} {te : TE} {RR : Value → Addr → Result → Shared → Prop} {Qv : VK} {E : Value → Shared → Prop} {it : Addr} {fp : List Addr} {tn : Nat → Heap → Prop} {J : It} {H2 : Hp} {s2 : Shared}
    (hc : X.calm = true) (B : Blk X scope cl N' js) (hg : ∀ C s₀ H₀ ex pn, PG (blk X scope cl N' C s₀ H₀ ex pn) tg g) (hf : ∀ C s₀ H₀ ex pn, PF (blk X scope cl N' C s₀ H₀ ex pn) ifs tf) (he : ∀ C s₀ H₀ ex pn, PE (blk X scope cl N' C s₀ H₀ ex pn) elt te)
    (I2 : Inv X pins σ H2 s2) (T : Turn X.prog X.w X.K tg J fp it tn) (st2 : tn 0 s2.heap) (f2 : ∀ b ∈ fp, FpOk X pins H2 b) (cg : CompGo J g tf te Qv (lend js σ) H2)
    (fin : ∀ (Dd Cc : Addr) (m : Str → Option Value) (s4 : Shared) (Hx : Hp), Inv X pins σ Hx s4 → Qv (.ref Dd) Hx → s4.heap.Ns Cc m → Hx Cc = none → Cc ≠ X.env.locals → X.s₀.heap.objs.size ≤ Cc → (∀ x c, X.env.cells.lookup x = some c → c ≠ Cc) → (∀ p ∈ X.pn ++ pins, p.1 ≠ Cc) →
      RR (.ref Dd) Cc (.ok .next) s4) :
    wpAny (model X.prog X.w) X.A (newList []) (fun acc s₃ => wpAny (model X.prog X.w) X.A (newFunctionEnv scope X.env.globals cl [] X.env.qual none .none (some X.env)) (fun cenv s₄ =>
      codeAny (model X.prog X.w) X.A (.compStart (.ListComp elt [⟨tg, iter, ifs, 0⟩] scope pos) 0 (.ref it) acc { cenv with scope := relabel scope X.env }) (RR acc cenv.locals) s₄) E s₃) E s2 := by
  obtain ⟨W, ⟨m0, w0⟩, turn⟩ := cg
  refine wpAny_newObj_type (wpAny_newFunctionEnv B.nocell (by intro y hy; simp at hy) (fun h₁ hns₁ hsb₁ => ?_) B.kind)
  dsimp only at hns₁ hsb₁ ⊢
  generalize hG : s2.heap.push { cls := .type "list", dict := none, data := .seq ([] : List Value).toArray } = G at hns₁ hsb₁ ⊢
  have hC : G.objs.size = s2.heap.objs.size + 1 := by rw [← hG, Heap.size_push]
  have hDC : s2.heap.objs.size ≠ G.objs.size := by rw [hC]; exact Nat.ne_of_lt (Nat.lt_succ_self _)
  have below : ∀ b, b < s2.heap.objs.size → b ≠ G.objs.size ∧ b ≠ s2.heap.objs.size := fun b hb => ⟨by rw [hC]; exact Nat.ne_of_lt (Nat.lt_succ_of_lt hb), Nat.ne_of_lt hb⟩
  have old : ∀ b o, s2.heap.get? b = some o → h₁.get? b = some o := fun b o e => hsb₁.extBut b o (below b (Heap.lt_size e)).1 (Heap.get?_push_of_some _ (hG ▸ Heap.get?_push_of_some _ e))
  have hacc : h₁.get? s2.heap.objs.size = some (lobj []) := hsb₁.extBut _ _ hDC (Heap.get?_push_of_some _ (hG ▸ Heap.get?_push_size _ rfl))
  have fo : ∀ b ∈ fp, ∃ o, s2.heap.get? b = some o := fun b hb => let ⟨o, e, _⟩ := T.obj 0 _ st2 b hb; ⟨o, e⟩
  have I4 := blk_inv (tk := s2.toks + ([] : List (Str × Value)).length) B I2 f2 fo old hns₁ (by rw [hC]; exact Nat.le_succ _)
  generalize hD : s2.heap.objs.size = Dd at *
  generalize hCC : G.objs.size = Cc at *
  have st4 : tn 0 h₁ := T.keep 0 _ _ st2 fun b _ o e => old b o e
  have fpne : ∀ b ∈ fp, b ≠ Dd := fun b hb => let ⟨o, e⟩ := fo b hb; by rw [← hD]; exact Nat.ne_of_lt (Heap.lt_size e)
  have hDfree : H2 Dd = none := I2.hok.fresh (by rw [hD]; exact Nat.le_refl _)
  have hDfs : Dd ∉ frs X.stack := fun hb => by
    rcases List.mem_cons.mp (I2.stkSub _ hb) with z | z
    · have := I2.lt; rw [← z, hD] at this; exact Nat.lt_irrefl _ this
    · exact I2.nofs (a := Dd) (by rw [hD]; exact Nat.le_refl _) z
  have hDcell : ∀ x c, X.env.cells.lookup x = some c → c ≠ Dd := fun x c e z => by
    obtain ⟨v, q⟩ := I2.cell x c e
    have := q.lt
    rw [z, ← hD] at this; exact Nat.lt_irrefl _ this
  have hDpin : ∀ p ∈ X.pn ++ pins, p.1 ≠ Dd := fun p hp z => by
    have := Heap.lt_size (I2.pin p hp).1
    rw [z, ← hD] at this; exact Nat.lt_irrefl _ this
  -- the block's context
  generalize hXb : blk X scope cl N' Cc s2 H2 fp (X.pn ++ pins) = Xb at I4
  have xP : Xb.prog = X.prog := by rw [← hXb]; rfl
  have xW : Xb.w = X.w := by rw [← hXb]; rfl
  have xK : Xb.K = X.K := by rw [← hXb]; rfl
  have xA : Xb.A = X.A := by rw [← hXb]; rfl
  have xC : Xb.calm = true := by rw [← hXb]; exact hc
  have xL : Xb.env.locals = Cc := by rw [← hXb]; rfl
  have xFs : Xb.fs = frs X.stack := by rw [← hXb]; rfl
  have xEx : Xb.ex = fp := by rw [← hXb]; rfl
  have xPn : Xb.pn = X.pn ++ pins := by rw [← hXb]; rfl
  have xS : Xb.s₀ = s2 := by rw [← hXb]; rfl
  have xH : Xb.H₀ = H2 := by rw [← hXb]; rfl
  have xCl : ∀ y c, Xb.env.cells.lookup y = some c → X.env.cells.lookup y = some c := by rw [← hXb]; exact B.sub
  have xE : Xb.env = compEnvC scope cl Cc X.env := by rw [← hXb]; rfl
  have xX : Xb.xe = fun _ _ => False := by rw [← hXb]; rfl
  have hg' : PG Xb tg g := by rw [← hXb]; exact hg _ _ _ _ _
  have hf' : PF Xb ifs tf := by rw [← hXb]; exact hf _ _ _ _ _
  have he' : PE Xb elt te := by rw [← hXb]; exact he _ _ _ _ _
  have fok : ∀ {H' : Hp} {o : Obj}, (∀ b ∈ fp, H' b = none) → ∀ b ∈ fp, FpOk Xb [(Dd, o)] H' b := fun {H' o} hn b hb => by
    obtain ⟨o', e'⟩ := fo b hb
    refine ⟨hn b hb, ?_, ?_, .inl (by rw [xEx]; exact hb), fun y c q => (f2 b hb).2.2.2.2.1 y c (xCl y c q), fun p hp => ?_⟩
    · rw [xL]; exact (below b (by have := Heap.lt_size e'; rw [hD] at this; exact this)).1
    · rw [xFs]
      intro hs
      rcases List.mem_cons.mp (I2.stkSub b hs) with z | z
      · exact (f2 b hb).2.1 z
      · exact (f2 b hb).2.2.1 z
    · rw [xPn] at hp
      rcases List.mem_append.mp hp with z | z
      · exact (f2 b hb).2.2.2.2.2 p z
      · rw [List.mem_singleton.mp z]; exact (fpne b hb).symm
  have hDC' : Dd ≠ Cc := by rw [← hD, ← hCC]; rw [← hCC, ← hD] at hDC; exact hDC
  have loop : codeAny (model X.prog X.w) X.A (.compLoop (.ListComp elt [⟨tg, iter, ifs, 0⟩] scope pos) 0 (.ref it) (.ref Dd) (compEnvC scope cl Cc X.env)) (RR (.ref Dd) Cc)
      { s2 with heap := h₁, toks := s2.toks + ([] : List (Str × Value)).length } := by
    refine codeAny_compLoop_any (fun n s' => ∃ i ys τ H' its, Inv Xb [(Dd, lobj its)] τ H' s' ∧ tn i s'.heap ∧ (∀ b ∈ fp, H' b = none) ∧ Vals ys its ∧ ys.length ≤ sizeLine ∧ W i n ys τ H') ?_ m0
      ⟨0, [], _, H2, [], I4.pins_of (fun p hp => ?_), st4, fun b hb => (f2 b hb).1, .nil, Nat.zero_le _, w0⟩
    · rintro n s3 ⟨i, ys, τ, H3, its, I3, st3, fr3, hv, hz, w3⟩
      have pD := I3.pin (Dd, lobj its) (List.mem_append_right _ (List.mem_singleton.mpr rfl))
      rcases turn i n ys τ H3 w3 with ⟨stop, qn⟩ | ⟨go, Nx, hN, step⟩
      · have hd := T.done Xb xP xW xK xC i [(Dd, lobj its)] s3 τ H3 (fun _ _ => False) I3 (fok fr3) st3 stop
        rw [xA] at hd
        refine thn hd fun r s4 ⟨hr, I5⟩ => ?_
        subst hr
        obtain ⟨m, hn, _⟩ := id I5.loc
        rw [xL] at hn
        have pD5 := I5.pin (Dd, lobj its) (List.mem_append_right _ (List.mem_singleton.mpr rfl))
        have ub := I5.base
        rw [xFs, xEx, xS, xH] at ub
        have hfC : H3 Cc = none := by have := I5.free; rw [xL] at this; exact this
        have ok5 : HOk X.prog X.w H3 s4.heap := by have := I5.hok; rw [xP, xW] at this; exact this
        have IX : Inv X pins σ H3 s4 := I2.call' (s' := s4) (by rw [I5.os, xS]) ub ok5 I5.bare fun b hb => ⟨(f2 b hb).2.2.2.1, (f2 b hb).2.1, (f2 b hb).2.2.2.2.1, (f2 b hb).2.2.2.2.2⟩
        have hlo : X.s₀.heap.objs.size ≤ Dd := by rw [← hD]; exact I2.sz
        have hloL : Dd ≠ X.env.locals := fun z => by have := I2.lt; rw [← z, hD] at this; exact Nat.lt_irrefl _ this
        have hCD : Dd ≤ Cc := by omega
        refine fin Dd Cc m s4 (upd H3 Dd (.lst ys)) (L3.Inv.track IX pD5.2.1 pD5.1 hv hz (.inr hlo) hloL hDcell hDpin) (qn Dd pD5.2.1) hn (by rw [upd_ne hDC'.symm]; exact hfC) ?_ (Nat.le_trans hlo hCD) ?_ ?_
        · intro z; have := I2.lt; rw [← z, hD] at this; exact Nat.lt_irrefl _ (Nat.lt_of_lt_of_le this hCD)
        · intro x c e z
          obtain ⟨v, q⟩ := I2.cell x c e
          have := q.lt
          rw [z, hD] at this; exact Nat.lt_irrefl _ (Nat.lt_of_lt_of_le this hCD)
        · intro p hp z
          have := Heap.lt_size (I2.pin p hp).1
          rw [z, hD] at this; exact Nat.lt_irrefl _ (Nat.lt_of_lt_of_le this hCD)
      · have hit := T.item Xb xP xW xK xC i [(Dd, lobj its)] s3 τ H3 (fun _ _ => False) I3 (fok fr3) st3 go
        rw [xA] at hit
        refine thn hit fun r s4 ⟨u, hr, h4⟩ => ?_
        subst hr
        refine thn h4 fun _ s5 ⟨x, H5, I5, r5, y5, st5, fr5⟩ => ?_
        have I5' := I5.pinned (fok fr5) (T.obj _ _ st5)
        have ga := hg' _ s5 τ H5 x u _ I5' r5 (step x H5 y5)
        rw [xP, xW, xA, xE, xX] at ga
        refine thn ga fun _ s6 ⟨τ6, H6, I6, q6⟩ => ?_
        have fa := hf' _ s6 τ6 H6 _ I6 q6
        rw [xP, xW, xA, xE, xX] at fa
        refine thn fa fun ok s7 ⟨H7, I7, q7⟩ => ?_
        have back : ∀ {τ8 : L2.St} {H8 : Hp} {s8 : Shared}, Inv Xb ([(Dd, lobj its)] ++ pinsAt fp s5.heap) τ8 H8 s8 → tn (i + 1) s8.heap ∧ (∀ b ∈ fp, H8 b = none) := fun {τ8 H8 s8} I8 =>
          ⟨T.keep _ _ _ st5 fun b hb o e => (I8.pin (b, o) (List.mem_append_right _ (List.mem_append_right _ (mem_pinsAt hb e)))).1, fun b hb => by
            obtain ⟨o, e, d⟩ := T.obj _ _ st5 b hb
            exact (I8.pin (b, o) (List.mem_append_right _ (List.mem_append_right _ (mem_pinsAt hb e)))).2.1⟩
        cases ok with
        | false =>
          rw [if_neg (by simp)] at q7 ⊢
          obtain ⟨m', hm, w7⟩ := hN _ _ _ q7
          obtain ⟨b1, b2⟩ := back I7
          exact ⟨m', hm, i + 1, ys, τ6, H7, its, I7.unpinned, b1, b2, hv, hz, w7⟩
        | true =>
          rw [if_pos rfl] at q7 ⊢
          have ea := he' _ s7 τ6 H7 _ I7 q7
          rw [xP, xW, xA, xE, xX] at ea
          refine thn ea fun yv s8 ⟨y, H8, I8, r8, hlt, n8⟩ => ?_
          have pD8 := I8.pin (Dd, lobj its) (List.mem_append_right _ (List.mem_append_left _ (List.mem_singleton.mpr rfl)))
          have hil : its.length = ys.length := hv.length.symm
          refine append_at (hsz := by rw [List.size_toArray]; omega) pD8.1 fun h' hs' ho' => ?_
          obtain ⟨m', hm, w8⟩ := hN _ _ _ n8
          obtain ⟨b1, b2⟩ := back I8
          have J1 : Inv Xb [] τ6 H8 s8 := I8.pins_of (fun p hp => nomatch hp)
          have J2 : Inv Xb [] τ6 H8 { s8 with heap := h' } := J1.turned (t' := s8.toks) (it := Dd) (fun b o hb e => (hs'.2 b hb).trans e) pD8.2.1 pD8.2.2.1 (.inr (by rw [xS, hD]; exact Nat.le_refl _)) (fun y c q => hDcell y c (xCl y c q)) fun p hp => by
            rw [xPn, List.append_nil] at hp
            exact hDpin p hp
          refine ⟨m', hm, i + 1, ys ++ [y], τ6, H8, its ++ [yv], J2.pins_of fun p hp => ?_, T.keep _ _ _ b1 fun b hb o e => (hs'.2 b (fpne b hb)).trans e, b2, hv.append (.cons r8 .nil), by rw [List.length_append, List.length_singleton]; omega, w8⟩
          rw [List.mem_singleton.mp hp]
          refine ⟨?_, pD8.2.1, pD8.2.2.1, pD8.2.2.2.1, fun v z => nomatch z⟩
          show h'.get? Dd = some (lobj (its ++ [yv]))
          rw [ho']
          show some ({ cls := .type "list", data := .seq (its.toArray.push yv) (its.length + 1) } : Obj) = some { cls := .type "list", data := .seq (its ++ [yv]).toArray (its ++ [yv]).length }
          rw [List.length_append, List.length_singleton, List.push_toArray]
    · rw [List.mem_singleton.mp hp]
      refine ⟨hacc, hDfree, ?_, ?_, fun v z => nomatch z⟩
      · rw [xL]; rw [← hCC, ← hD]; rw [← hCC, ← hD] at hDC; exact hDC
      · rw [xFs]; exact hDfs
  exact codeAny_compStart_list loop (T.self X.A 0 _ _ _ st4 loop)

theorem pe_comp {elt iter tg : Expr} {ifs : List Expr} {scope : Scope} {pos : Pos} {cl : List (Str × Addr)} {N' : List Str} {js : List (Option Nat)} {wi : TI} {g : TG} {tf : TT} {te : TE} (hc : X.calm = true) (B : Blk X scope cl N' js) (hi : PI X tg iter wi)
    (hg : ∀ C s₀ H₀ ex pn, PG (blk X scope cl N' C s₀ H₀ ex pn) tg g) (hf : ∀ C s₀ H₀ ex pn, PF (blk X scope cl N' C s₀ H₀ ex pn) ifs tf) (he : ∀ C s₀ H₀ ex pn, PE (blk X scope cl N' C s₀ H₀ ex pn) elt te)
    (hs : ∀ x, foldedSetIterable iter X.env x = pure x := by intro _; rfl) : PE X (.ListComp elt [⟨tg, iter, ifs, 0⟩] scope pos) (tComp js wi g tf te) := by
  intro pins s σ H Q I h
  rw [eval_ListComp]
  refine wpAny_comprehension_free (use := none) rfl hs B.clos B.kind B.names (thn (hi pins s σ H _ I h) fun xv s1 h1 => thn h1 fun itv s2 h2 => ?_)
  obtain ⟨it, fp, tn, J, H2, e, I2, T, st2, f2, cg⟩ := h2
  subst e
  refine comp_core (RR := fun acc C => compPost (model X.prog X.w) X.A X.xe none (EP X pins σ Q) acc C) hc B hg hf he I2 T st2 f2 cg ?_
  intro Dd Cc m s4 Hx IX q hn hC cL cS cC cP
  refine ⟨m, hn, fun h' hs' => ⟨.ref Dd, Hx, ?_, rfl, q⟩⟩
  exact IX.turned (t' := s4.toks) (it := Cc) (fun b o hb e => (hs'.2 b hb).trans e) hC cL (.inr cS) cC cP
theorem ps_compset {i : Nat} {y : Str} {elt iter tg : Expr} {ifs : List Expr} {scope : Scope} {pos spos py : Pos} {cl : List (Str × Addr)} {N' : List Str} {js : List (Option Nat)} {wi : TI} {g : TG} {tf : TT} {te : TE} (hN : X.N.Nodup) (hy : X.N[i]? = some y) (hx : Loc X.env.scope y)
    (hsw : swapsWith (.ListComp elt [⟨tg, iter, ifs, 0⟩] scope pos) (some (.Name y py)) spos.line X.env = pure true) (hc : X.calm = true) (B : Blk X scope cl N' js) (hi : PI X tg iter wi)
    (hg : ∀ C s₀ H₀ ex pn, PG (blk X scope cl N' C s₀ H₀ ex pn) tg g) (hf : ∀ C s₀ H₀ ex pn, PF (blk X scope cl N' C s₀ H₀ ex pn) ifs tf) (he : ∀ C s₀ H₀ ex pn, PE (blk X scope cl N' C s₀ H₀ ex pn) elt te)
    (hs : ∀ x, foldedSetIterable iter X.env x = pure x := by intro _; rfl) (hfn : X.fn y = true ∨ X.env.scope.names.lookup y = some .local := by first | exact .inl rfl | exact .inr rfl | assumption) :
    PS X (.Assign [.Name y py] (.ListComp elt [⟨tg, iter, ifs, 0⟩] scope pos) spos) (tAsg (tComp js wi g tf te) (gName i)) := by
  intro pins s σ H D I h
  rw [exec_Assign_Name_used _ _ _ _ hsw]
  refine wpAny_bind (wpAny_standAt (wpAny_bind ?_))
  show wpAny _ X.A (do let _ ← comprehension (.ListComp elt [⟨tg, iter, ifs, 0⟩] scope pos) scope X.env _ (newList []) false (eval iter X.env) (some (assign (.Name y py) X.env))) _ _ s
  refine wpAny_bind (wpAny_mono (wpAny_comprehension_free (use := some (assign (.Name y py) X.env)) (Q := fun _ s' => SP X pins D .next s') rfl hs B.clos B.kind B.names
    (thn (hi pins s σ H _ I h) fun xv s1 h1 => thn h1 fun itv s2 h2 => ?_)) (fun _ s' hq => wpAny_pure (wpAny_pure hq)) fun _ _ e => e)
  obtain ⟨it, fp, tn, J, H2, e, I2, T, st2, f2, cg⟩ := h2
  subst e
  refine comp_core (RR := fun acc C => compPost (model X.prog X.w) X.A X.xe (some (assign (.Name y py) X.env)) (fun _ s' => SP X pins D .next s') acc C) hc B hg hf he I2 T st2 f2 cg ?_
  intro Dd Cc m s4 Hx IX q hn hC cL cS cC cP
  show wpAny _ X.A (assign (.Name y py) X.env (.ref Dd)) _ _ _
  refine wpAny_assign_Name (store_ok2 IX hN hy hx (v := .ref Dd) rfl (fun s5 I5 ⟨b, hb, hb'⟩ => ?_) hfn)
  have hCb : Cc ≠ b := fun z => by
    rcases hb' with w | w
    · exact cL (z.trans w)
    · exact cC y b w z.symm
  refine ⟨m, hn.sameBut hb hCb, fun h' hs' => ⟨_, Hx, I5.turned (t' := s5.toks) (it := Cc) (fun b o hb e => (hs'.2 b hb).trans e) hC cL (.inr cS) cC cP, q⟩⟩
end
/-! ### a block from checks -/
def capt (env : Env) : List (Str × NameKind) → List (Str × Addr) → List (Str × Addr)
  | [], acc => acc
  | (n, k) :: r, acc => capt env r (if k == .free then (match env.cells.lookup n with | some c => (n, c) :: acc | none => acc) else acc)
theorem lookup_cons' {n y : Str} {c : Addr} {acc : List (Str × Addr)} : ((n, c) :: acc).lookup y = if y == n then some c else acc.lookup y := by
  rw [List.lookup_cons]; cases y == n <;> rfl
theorem capt_sub {env : Env} : ∀ (names : List (Str × NameKind)) (acc : List (Str × Addr)), (∀ y c, acc.lookup y = some c → env.cells.lookup y = some c) → ∀ y c, (capt env names acc).lookup y = some c → env.cells.lookup y = some c
  | [], acc, h, y, c, e => h y c e
  | (n, k) :: r, acc, h, y, c, e => by
    unfold capt at e
    refine capt_sub r _ (fun y c q => ?_) y c e
    split at q
    · split at q
      · rename_i c' hc
        rw [lookup_cons'] at q
        split at q
        · rename_i hy
          cases q
          rw [eq_of_beq hy]; exact hc
        · exact h y c q
      · exact h y c q
    · exact h y c q
theorem capt_keep {env : Env} {y : Str} : ∀ (names : List (Str × NameKind)) (acc : List (Str × Addr)), (∃ c, acc.lookup y = some c) → ∃ c, (capt env names acc).lookup y = some c
  | [], acc, h => h
  | (n, k) :: r, acc, h => by
    unfold capt
    refine capt_keep r _ ?_
    split
    · split
      · rw [lookup_cons']
        split
        · exact ⟨_, rfl⟩
        · exact h
      · exact h
    · exact h
theorem capt_has {env : Env} {y : Str} (hy : (env.cells.lookup y).isSome = true) : ∀ (names : List (Str × NameKind)) (acc : List (Str × Addr)), (y, NameKind.free) ∈ names → ∃ c, (capt env names acc).lookup y = some c
  | (n, k) :: r, acc, h => by
    unfold capt
    rcases List.mem_cons.mp h with z | z
    · cases z
      refine capt_keep r _ ?_
      obtain ⟨c, hc⟩ := Option.isSome_iff_exists.mp hy
      rw [if_pos (by rfl), hc]
      exact ⟨c, by rw [lookup_cons', if_pos (beq_self_eq_true y)]⟩
    · exact capt_has hy r _ z
theorem relabel_free {scope : Scope} {env : Env} {y : Str} (h0 : ∀ z ∈ scope.names, z.2 ≠ .cell) (h : (relabel scope env).names.lookup y = some .cell ∨ (relabel scope env).names.lookup y = some .free) : (y, NameKind.free) ∈ scope.names := by
  have mem : ∃ k, (k = NameKind.cell ∨ k = NameKind.free) ∧ (y, k) ∈ (relabel scope env).names := by
    rcases h with h | h
    · exact ⟨_, .inl rfl, PySem.mem_of_lookup h⟩
    · exact ⟨_, .inr rfl, PySem.mem_of_lookup h⟩
  obtain ⟨k, hk, hm⟩ := mem
  unfold relabel at hm
  obtain ⟨⟨n, k'⟩, hm', e⟩ := List.mem_map.mp hm
  simp only at e
  split at e
  · rename_i hc
    cases e
    have : k' = .free := by
      simp only [Bool.and_eq_true, beq_iff_eq] at hc
      exact hc.1.1
    rw [← this]; exact hm'
  · cases e
    rcases hk with rfl | rfl
    · exact absurd rfl (h0 _ hm')
    · exact hm'
def chkFree (scope : Scope) (env : Env) : Bool := scope.names.all fun y => y.2 != .free || (env.cells.lookup y.1).isSome
def chkLent (X : Cx) (scope : Scope) : List Str → List (Option Nat) → Bool
  | [], [] => true
  | y :: N, o :: js => (match o with
    | none => true
    | some j => X.N[j]? == some y && (X.env.scope.names.lookup y == some .cell || X.env.scope.names.lookup y == some .free) && (relabel scope X.env).names.lookup y != some .local) && chkLent X scope N js
  | _, _ => false
theorem chkLent_at {X : Cx} {scope : Scope} : ∀ {N : List Str} {js : List (Option Nat)}, chkLent X scope N js = true → js.length = N.length ∧ ∀ (i : Nat) y j, N[i]? = some y → js[i]? = some (some j) → X.N[j]? = some y ∧ Vis X.env.scope y ∧ X.env.scope.names.lookup y ≠ some .local ∧ (relabel scope X.env).names.lookup y ≠ some .local
  | [], [], _ => ⟨rfl, fun i y j h => by simp at h⟩
  | [], _ :: _, h => by simp [chkLent] at h
  | _ :: _, [], h => by simp [chkLent] at h
  | z :: N, o :: js, h => by
    unfold chkLent at h
    rw [Bool.and_eq_true] at h
    obtain ⟨l, t⟩ := chkLent_at h.2
    refine ⟨by rw [List.length_cons, List.length_cons, l], fun i y j h1 h2 => ?_⟩
    cases i with
    | zero =>
      simp at h1 h2
      subst h1 h2
      have h' := h.1
      simp only [Bool.and_eq_true, Bool.or_eq_true, beq_iff_eq, bne_iff_ne] at h'
      refine ⟨h'.1.1, ?_, ?_, h'.2⟩
      · rcases h'.1.2 with q | q
        · exact .inr (.inl q)
        · exact .inr (.inr q)
      · rcases h'.1.2 with q | q <;> rw [q] <;> decide
    | succ i => exact t i y j (by simpa using h1) (by simpa using h2)
theorem blk_mk {X : Cx} {scope : Scope} {N' : List Str} {js : List (Option Nat)} (clos : closureFor scope X.env = pure (capt X.env scope.names [])) (nocell : ∀ y ∈ scope.names, y.2 ≠ .cell) (kind : scope.kind = .function)
    (names : ∀ y ∈ scope.names, y.2 = .local → scope.names.lookup y.1 = some .local) (free : chkFree scope X.env = true) (lent : chkLent X scope N' js = true) : Blk X scope (capt X.env scope.names []) N' js where
  clos := clos
  nocell := nocell
  kind := kind
  names := names
  sub := capt_sub _ _ fun y c e => nomatch e
  has := fun y h => by
    have hm := relabel_free nocell h
    have hf := List.all_eq_true.mp free _ hm
    exact capt_has (by simpa using hf) _ _ hm
  len := (chkLent_at lent).1
  lent := (chkLent_at lent).2
theorem comp_list {K : PySem.W.Frag} {a : Addr} {xs : List V} {g : TG} {tf : TT} {te : TE} {τ : L2.St} {H : Hp} {Q : VK} (Pv : Nat → List V → L2.St → Hp → Prop) (h0 : Pv 0 [] τ H) (hl : ∀ i ys τ H, Pv i ys τ H → SqL K H a xs)
    (hs : ∀ i x ys τ H, xs[i]? = some x → Pv i ys τ H → g x τ H fun τ2 H2 => tf τ2 H2 fun b H3 => if b = true then te τ2 H3 fun y H4 => ys.length < sizeLine ∧ Pv (i + 1) (ys ++ [y]) τ2 H4 else Pv (i + 1) ys τ2 H3)
    (hd : ∀ ys τ H, Pv xs.length ys τ H → ∀ p, H p = none → Q (.ref p) (upd H p (.lst ys))) :
    CompGo (Itl K a) g tf te Q τ H := by
  refine ⟨fun i m ys τ H => m = xs.length - i ∧ i ≤ xs.length ∧ Pv i ys τ H, ⟨xs.length, by simp, Nat.zero_le _, h0⟩, ?_⟩
  rintro i m ys τ H ⟨rfl, hi, p⟩
  have q := hl i ys τ H p
  by_cases hlt : i < xs.length
  · refine .inr ⟨⟨xs, xs[i], q, by simp [hlt]⟩, Pv (i + 1), fun ys' τ' H' p' => ⟨xs.length - (i + 1), by omega, rfl, hlt, p'⟩, fun x H' y => ?_⟩
    obtain ⟨e, y⟩ := y
    subst e
    exact hs i x ys τ _ (y xs q) p
  · have e : i = xs.length := by omega
    subst e
    exact .inl ⟨⟨xs, q, Nat.le_refl _⟩, hd ys τ H p⟩
end L3

/-! min and max of a list of texts. -/
namespace L3
open PySem PySem.Spec PyProof.Rows L2
section
variable {prog : Program} {w : World} {A : Around} {E : Value → Shared → Prop} {s : Shared} {l : Addr} {xs : Array Value}
end
section
variable {X : Cx}
theorem strsAre_of : ∀ {xs : List Str} {us : List Value}, Vals (xs.map V.str) us → StrsAre us xs
  | [], _, r => by cases r; exact .nil
  | x :: xs, _, r => by
    cases r with
    | cons r1 r2 =>
      obtain ⟨t, rfl⟩ := r1
      exact .cons x t (strsAre_of r2)
def rJoin (K : PySem.W.Frag) : V → List V → Hp → VK → Prop := fun x vs H Q => ∃ z p ys, x = .str z ∧ vs = [.ref p] ∧ SqL K H p (ys.map V.str) ∧ (ys.map (·.length)).sum + ys.length * z.length ≤ 16777216 ∧ Q (.str (Txt.join z ys)) H
theorem mt_join : MtR X "str.join" (rJoin X.K) := by
  intro pins s σ H x vs v us Q I rx rv h
  obtain ⟨z, p, ys, rfl, rfl, hq, hz, q⟩ := h
  obtain ⟨t, rfl⟩ := rx
  obtain ⟨u, rfl, ru⟩ := vals1 rv
  cases ru
  obtain ⟨its, ri, pl, _⟩ := I.list hq
  exact join_list pl.isList (by simpa using strsAre_of ri) hz fun t' k => ⟨.str (Txt.join z ys), H, I.tok _, ⟨_, rfl⟩, q⟩
end
end L3

/-! xs[::-1] of a list. -/
namespace L3
open PySem PySem.Spec PyProof.Rows L2
section
variable {X : Cx} {e st : Expr} {te ts : TE} {pos p2 : Pos}
end
end L3

/-! a text so many times. -/
namespace L3
open PySem PySem.Spec PyProof.Rows L2
section
variable {X : Cx}
def rMulS : R2 := fun x y H Q => ∃ (z : Str) (n : Int), x = .str z ∧ y = .int n ∧ 1 ≤ n ∧ n ≤ 1000 ∧ z.length ≤ 100 ∧ Q (.str (Txt.mul z n)) H
theorem op_mul_str : OpR X (binaryOp .Mult) rMulS := by
  intro pins s σ H x y v u Q I rx ry h
  obtain ⟨z, n, rfl, rfl, n0, n1, hz, q⟩ := h
  obtain ⟨t, rfl⟩ := rx
  obtain ⟨t', rfl⟩ := ry
  refine SB.mul ⟨?_, fun _ _ => ?_, fun _ _ => ?_⟩ fun t' k => ⟨.str (Txt.mul z n), H, I.tok _, ⟨_, rfl⟩, q⟩
  · rw [decide_eq_false (by omega), decide_eq_false (by omega)]; rfl
  · have h1 : (9223372036854775 : Int) ≤ (2 ^ 63 - 1) / n := by
      refine (Int.le_ediv_iff_mul_le (by omega)).mpr ?_
      have : (9223372036854775 : Int) * n ≤ 9223372036854775 * 1000 := Int.mul_le_mul_of_nonneg_left n1 (by decide)
      omega
    omega
  · have h2 : z.length * n.toNat ≤ 100 * 1000 := Nat.mul_le_mul hz (by omega)
    have h3 : (sizeLine : Nat) ≥ 100000 := by decide
    unfold Builtin.Str.tooLong
    exact decide_eq_false (by omega)
theorem mul_len (z : Str) (n : Int) (h : 1 ≤ n) : ((Txt.mul z n).length : Int) = (z.length : Int) * n := by
  rw [len_mul, if_neg (by simp; omega)]
end
end L3

/-! for over range(lo, hi, -1). -/
namespace L3
open PySem PySem.Spec PyProof.Rows L2
def Itd (lo : Int) (n : Nat) : It := ⟨fun i _ => i < n, fun i H x H' => H' = H ∧ x = .int (lo - i), fun i _ => n ≤ i⟩
theorem turn_down {P : Program} {w : World} {K : PySem.W.Frag} {tg : Expr} (it : Addr) (lo : Int) (n : Nat) : Turn P w K tg (Itd lo n) [it] it (fun i h => IsRangeIter h it (lo + (i : Nat) * (-1)) ((n : Int) - (i : Nat)) (-1)) where
  mem := by simp
  obj := fun i h st b hb => by
    have e : b = it := by simpa using hb
    subst e
    exact ⟨_, st, fun v z => nomatch (z : Data.fields _ = Data.cell v)⟩
  keep := fun i h h' st k => k it (by simp) _ st
  item := by
    intro X hP hw hK hc i pins s σ H E I hf st hg
    subst hP hw hK
    obtain ⟨f0, f1, f2, f3, f4, f5⟩ := hf it (by simp)
    refine (Walks.range (prog := X.prog) (w := X.w) (I.ok.hd hc) it lo (-1) n).item i s _ _ hg st fun v h' tk hv st' kk => ?_
    obtain ⟨t, rfl⟩ := hv
    have I1 : Inv X pins σ H { s with heap := h', toks := tk } := I.turned (fun b o hb e => kk b o (by simpa using hb) e) f0 f1 f3 f4 f5
    refine ⟨_, rfl, go_of (s := { s with heap := h', toks := tk }) (n := "range_iterator") st' rfl rfl (by decide) ⟨.int (lo - i), H, I1, ⟨t, ?_⟩, ⟨rfl, rfl⟩, st', fun b hb => (hf b hb).1⟩⟩
    rw [show lo - (i : Int) = lo + (i : Nat) * (-1) by omega]
  done := by
    intro X hP hw hK hc i pins s σ H E I hf st hg
    subst hP hw hK
    obtain ⟨f0, f1, f2, f3, f4, f5⟩ := hf it (by simp)
    exact wpAny_pyNext_range_end (I.ok.hd hc) st (by have : n ≤ i := hg; omega) fun h' eb => ⟨rfl, I.turned (t' := s.toks) (fun b o hb e => eb b o hb e) f0 f1 f3 f4 f5⟩
  self := fun _ _ _ _ _ st h => wpAny_pyIter_rangeiter st h
theorem size_down (a b : Int) : Builtin.Range.rangeSize a b (-1) = ((a - b).toNat : Int) := by
  unfold Builtin.Range.rangeSize
  rw [if_neg (by decide), show (-(-1) : Int) = 1 from rfl, Int.ediv_one]
  split <;> omega
theorem small_down {a b : Int} (ha : -1000 ≤ a) (ha' : a < 100000) (hb : -1000 ≤ b) (hb' : b < 100000) : Builtin.Range.small a b (-1) = true := by
  unfold Builtin.Range.small
  rw [size_down]
  simp only [Builtin.Range.rangeFitsLong, Bool.and_eq_true, Bool.or_eq_true, decide_eq_true_eq, beq_iff_eq, show ¬ ((-1 : Int) > 0) by decide, if_false]
  omega
section
variable {X : Cx} {tg : Expr}
def iDown (ta : TA) : TI := fun σ H R => ta σ H fun vs H1 => ∃ i j : Int, vs = [.int i, .int j, .int (-1)] ∧ (-1000 ≤ i ∧ i < 100000 ∧ -1000 ≤ j ∧ j < 100000) ∧ R (Itd i (i - j).toNat) H1
theorem pi_down {a b c : Expr} {ta : TA} {p pos : Pos} (hg : Gl X "range") (hm : X.mg "range" = none) (ha : PA X [a, b, c] ta) (hs : starEach [a, b, c] X.env = [(false, eval a X.env), (false, eval b X.env), (false, eval c X.env)] := by rfl) (hs2 : starEach [b, c] X.env = [(false, eval b X.env), (false, eval c X.env)] := by rfl) :
    PI X tg (.Call (.Name "range" p) [a, b, c] [] pos) (iDown ta) := by
  intro pins s σ H R I h
  refine Call_ (ld_blt I hg hm boot_range (PyProof.Rows.callWith_type1 (thn (ha pos pins s σ H _ I h) fun us s1 ⟨vs, H1, I1, r1, q1⟩ => ?_) (by rw [hs, hs2]) (by rw [hs2]; rfl)))
  obtain ⟨i, j, e, ⟨q1, q2, q3, q4⟩, q⟩ := q1
  subst e
  cases r1 with
  | cons r rr =>
    cases rr with
    | cons r' rr =>
      cases rr with
      | cons r'' rr =>
        cases rr
        obtain ⟨t, rfl⟩ := r
        obtain ⟨t', rfl⟩ := r'
        obtain ⟨t'', rfl⟩ := r''
        refine call_range_3 (by decide) ?_ (Or.inl (PyProof.noPylong_small (by omega)))
        refine wpAny_pyIter_range (IsRange.new ..) ?_ ?_
        · exact small_down q1 q2 q3 q4
        have I2 : Inv X pins σ H1 { s1 with heap := s1.heap.push { cls := .type "range", data := .fields #[.int i t, .int j t', .int (-1) t''] }, toks := s1.toks } := I1.kept fun b o e => Heap.get?_push_of_some _ e
        refine ⟨_, [_], _, _, H1, rfl, I2.kept (t' := s1.toks) fun b o e => Heap.get?_push_of_some _ e, turn_down _ i (i - j).toNat, ?_, fun b hb => ?_, q⟩
        · show IsRangeIter _ _ (i + ((0 : Nat) : Int) * (-1)) ((((i - j).toNat : Nat) : Int) - ((0 : Nat) : Int)) (-1)
          rw [show i + ((0 : Nat) : Int) * (-1) = i by omega, show (((i - j).toNat : Nat) : Int) - ((0 : Nat) : Int) = Builtin.Range.rangeSize i j (-1) by rw [size_down]; omega]
          exact Heap.get?_push_size _ rfl
        · have e := List.mem_singleton.mp hb
          subst e
          exact I2.fpOk (Nat.le_refl _) (I2.hok.fresh (Nat.le_refl _))
end
theorem for_down {lo : Int} {n : Nat} {g : TG} {tb : TS} {D : Ends} {σ : L2.St} {H : Hp} (Pv : Nat → L2.St → Hp → Prop) (h0 : Pv 0 σ H)
    (hs : ∀ i σ H, i < n → Pv i σ H → g (.int (lo - i)) σ H fun σ2 H2 => tb { D with nx := Pv (i + 1), ct := Pv (i + 1), bk := D.nx } σ2 H2) (hd : ∀ σ H, Pv n σ H → D.nx σ H) :
    ∃ W : Nat → Nat → L2.St → Hp → Prop, (∃ m, W 0 m σ H) ∧ ∀ i m σ H, W i m σ H →
      ((Itd lo n).stop i H ∧ D.nx σ H) ∨ ((Itd lo n).go i H ∧ ∃ N : L2.St → Hp → Prop, (∀ σ' H', N σ' H' → ∃ m', m' < m ∧ W (i + 1) m' σ' H') ∧ ∀ x H', (Itd lo n).yld i H x H' → g x σ H' fun σ2 H2 => tb { D with nx := N, ct := N, bk := D.nx } σ2 H2) := by
  refine ⟨fun i m σ H => m = n - i ∧ i ≤ n ∧ Pv i σ H, ⟨n, rfl, Nat.zero_le _, h0⟩, ?_⟩
  rintro i m σ H ⟨rfl, hi, p⟩
  by_cases hlt : i < n
  · refine .inr ⟨hlt, Pv (i + 1), fun σ' H' p' => ⟨n - (i + 1), by omega, rfl, hlt, p'⟩, fun x H' y => ?_⟩
    obtain ⟨rfl, rfl⟩ := y
    exact hs i σ _ hlt p
  · have e : i = n := by omega
    subst e
    exact .inl ⟨Nat.le_refl _, hd σ H p⟩
end L3

/-! The table of a set: where a hash is looked for, and that the first free place is found. -/
namespace ST
open PySem PySem.SetTable
def it : Nat → Nat → Nat
  | 0, x => x
  | n + 1, x => it n (5 * x + 1)
theorem it_add : ∀ m n x, it (m + n) x = it n (it m x)
  | 0, n, x => by rw [Nat.zero_add]; rfl
  | m + 1, n, x => by rw [Nat.succ_add]; exact it_add m n (5 * x + 1)
theorem it_pow (k : Nat) : ∃ a, a % 2 = 1 ∧ ∀ y, it (2 ^ k) y = y + 2 ^ k * a * (4 * y + 1) := by
  induction k with
  | zero => exact ⟨1, rfl, fun y => by show 5 * y + 1 = y + 1 * 1 * (4 * y + 1); omega⟩
  | succ k ih =>
    obtain ⟨a, ha, h⟩ := ih
    refine ⟨a * (1 + 2 ^ (k + 1) * a), ?_, fun y => ?_⟩
    · rw [Nat.mul_mod, ha, Nat.pow_succ, Nat.mul_comm (2 ^ k) 2, Nat.mul_assoc]
      omega
    · rw [Nat.pow_succ, Nat.mul_two, it_add, h, h]
      grind
theorem reach_mod (k : Nat) : ∀ x j, j < 2 ^ k → ∃ n, n < 2 ^ k ∧ it n x % 2 ^ k = j := by
  induction k with
  | zero => intro x j h; exact ⟨0, by decide, by simp at h; subst h; simp [Nat.mod_one]⟩
  | succ k ih =>
    intro x j h
    have hp : 0 < 2 ^ k := Nat.two_pow_pos k
    have e : 2 ^ (k + 1) = 2 ^ k * 2 := Nat.pow_succ ..
    obtain ⟨n, hn, hx⟩ := ih x (j % 2 ^ k) (Nat.mod_lt _ hp)
    obtain ⟨a, ha, hi⟩ := it_pow k
    rw [e] at h ⊢
    generalize 2 ^ k = N at *
    have small : ∀ r, r < N * 2 → r % N = if r < N then r else r - N := fun r hr => by
      split
      · exact Nat.mod_eq_of_lt ‹_›
      · rw [Nat.mod_eq_sub_mod (by omega), Nat.mod_eq_of_lt (by omega)]
    have r0 : it n x % (N * 2) < N * 2 := Nat.mod_lt _ (by omega)
    have r1 : it n x % (N * 2) % N = j % N := by rw [Nat.mod_mod_of_dvd _ ⟨2, rfl⟩]; exact hx
    rw [small _ r0, small _ h] at r1
    by_cases c : it n x % (N * 2) = j
    · exact ⟨n, by omega, c⟩
    · refine ⟨n + N, by omega, ?_⟩
      have odd : ∃ b, a * (4 * it n x + 1) = 2 * b + 1 := by
        obtain ⟨c', rfl⟩ : ∃ c', a = 2 * c' + 1 := ⟨a / 2, by omega⟩
        exact ⟨c' * (4 * it n x + 1) + 2 * it n x, by grind⟩
      obtain ⟨b, hb⟩ := odd
      have e2 : it (n + N) x = it n x + N + N * 2 * b := by
        rw [it_add, hi, Nat.mul_assoc, hb]; grind
      rw [e2, Nat.add_mul_mod_self_left, Nat.add_mod, Nat.mod_eq_of_lt (show N < N * 2 by omega)]
      generalize it n x % (N * 2) = r at *
      split at r1 <;> split at r1
      · omega
      · have : j = r + N := by omega
        rw [this, Nat.mod_eq_of_lt (by omega)]
      · have : r = j + N := by omega
        rw [this, show j + N + N = j + N * 2 by omega, Nat.add_mod_right, Nat.mod_eq_of_lt h]
      · omega

/-! ### the places that are looked at -/
def adv (mask : Nat) (p : Probe) : Probe :=
  if p.more > 0 then { p with j := p.j + 1, more := p.more - 1 } else
  { p with j := (leap mask p.i p.perturb).1, more := runEnd mask (leap mask p.i p.perturb).1 - (leap mask p.i p.perturb).1, i := (leap mask p.i p.perturb).1, perturb := (leap mask p.i p.perturb).2 }
theorem advance_eq (t : SetTable) (p : Probe) : t.advance p = adv t.mask p := by
  unfold advance adv
  split <;> rfl
def blockAt (mask i perturb : Nat) : Probe := { j := i, more := runEnd mask i - i, i, perturb, dummy := none }
def st (mask : Nat) (h : Int) : Probe := blockAt mask (bits h % (mask + 1)) (bits h)
theorem probeStart_eq (t : SetTable) (h : Int) : t.probeStart h = st t.mask h := rfl
def itr (mask : Nat) : Nat → Probe → Probe
  | 0, p => p
  | n + 1, p => itr mask n (adv mask p)
theorem itr_succ (mask : Nat) : ∀ n p, itr mask (n + 1) p = adv mask (itr mask n p)
  | 0, _ => rfl
  | n + 1, p => itr_succ mask n (adv mask p)
theorem itr_add (mask : Nat) : ∀ m n p, itr mask (m + n) p = itr mask n (itr mask m p)
  | 0, n, p => by rw [Nat.zero_add]; rfl
  | m + 1, n, p => by rw [Nat.succ_add]; exact itr_add mask m n (adv mask p)
def pos (mask : Nat) (h : Int) (n : Nat) : Nat := (itr mask n (st mask h)).j
theorem itr_run (mask : Nat) : ∀ r (p : Probe), r ≤ p.more → itr mask r p = { p with j := p.j + r, more := p.more - r }
  | 0, p, _ => rfl
  | r + 1, p, h => by
    show itr mask r (adv mask p) = _
    have e : adv mask p = { p with j := p.j + 1, more := p.more - 1 } := by unfold adv; rw [if_pos (by omega)]
    rw [e, itr_run mask r _ (by show r ≤ p.more - 1; omega)]
    show ({ j := p.j + 1 + r, more := p.more - 1 - r, i := p.i, perturb := p.perturb, dummy := p.dummy } : Probe) = { j := p.j + (r + 1), more := p.more - (r + 1), i := p.i, perturb := p.perturb, dummy := p.dummy }
    congr 1 <;> omega
theorem more_le (mask i : Nat) : runEnd mask i - i ≤ 9 := by unfold runEnd; split <;> omega
theorem itr_block (mask i perturb : Nat) : itr mask (runEnd mask i - i + 1) (blockAt mask i perturb) = blockAt mask (leap mask i perturb).1 (leap mask i perturb).2 := by
  rw [itr_succ, itr_run mask (runEnd mask i - i) (blockAt mask i perturb) (show runEnd mask i - i ≤ runEnd mask i - i from Nat.le_refl _)]
  unfold adv
  rw [if_neg (by show ¬ (runEnd mask i - i - (runEnd mask i - i) > 0); omega)]
  rfl
def bk (mask : Nat) : Nat → Nat × Nat → Nat × Nat
  | 0, x => x
  | m + 1, x => bk mask m (leap mask x.1 x.2)
theorem bk_add (mask : Nat) : ∀ m n x, bk mask (m + n) x = bk mask n (bk mask m x)
  | 0, n, x => by rw [Nat.zero_add]; rfl
  | m + 1, n, x => by rw [Nat.succ_add]; exact bk_add mask m n _
theorem block_at (mask : Nat) : ∀ m i p, ∃ n, n ≤ 10 * m ∧ itr mask n (blockAt mask i p) = blockAt mask (bk mask m (i, p)).1 (bk mask m (i, p)).2
  | 0, i, p => ⟨0, Nat.zero_le _, rfl⟩
  | m + 1, i, p => by
    obtain ⟨n, hn, e⟩ := block_at mask m (leap mask i p).1 (leap mask i p).2
    have h9 := more_le mask i
    refine ⟨runEnd mask i - i + 1 + n, by omega, ?_⟩
    rw [itr_add, itr_block, e]
    rfl
theorem bk_perturb (mask : Nat) : ∀ m i p, (bk mask m (i, p)).2 = p / 32 ^ m
  | 0, i, p => by simp [bk]
  | m + 1, i, p => by
    show (bk mask m ((leap mask i p).1, (leap mask i p).2)).2 = _
    rw [bk_perturb mask m]
    show p / 32 / 32 ^ m = p / 32 ^ (m + 1)
    rw [Nat.div_div_eq_div_mul, Nat.pow_succ, Nat.mul_comm]
theorem bk_zero (mask : Nat) : ∀ m x, x < mask + 1 → (bk mask m (x, 0)).1 = it m x % (mask + 1)
  | 0, x, h => by show x = x % (mask + 1); rw [Nat.mod_eq_of_lt h]
  | m + 1, x, h => by
    show (bk mask m ((x * 5 + 1 + 0 / 32) % (mask + 1), 0 / 32)).1 = it m (5 * x + 1) % (mask + 1)
    rw [Nat.zero_div, Nat.add_zero, bk_zero mask m _ (Nat.mod_lt _ (by omega))]
    have go : ∀ m a b, a % (mask + 1) = b % (mask + 1) → it m a % (mask + 1) = it m b % (mask + 1) := fun m => by
      induction m with
      | zero => intro a b h; exact h
      | succ m ih => intro a b h; exact ih _ _ (by rw [Nat.add_mod, Nat.mul_mod, h, ← Nat.mul_mod, ← Nat.add_mod])
    refine go m _ _ ?_
    rw [Nat.mod_mod, Nat.mul_comm]
theorem bits_lt (h : Int) : bits h < 2 ^ 64 := by unfold bits; omega
theorem covers {mask k : Nat} (hm : mask + 1 = 2 ^ k) (h : Int) {j : Nat} (hj : j ≤ mask) : ∃ n, n < 10 * (mask + 14) ∧ pos mask h n = j := by
  have hp : (bk mask 13 (bits h % (mask + 1), bits h)).2 = 0 := by
    rw [bk_perturb]
    refine Nat.div_eq_of_lt (Nat.lt_of_lt_of_le (bits_lt h) (by decide))
  have hlt : (bk mask 13 (bits h % (mask + 1), bits h)).1 < mask + 1 := by
    show (bk mask (12 + 1) _).1 < _
    rw [bk_add]
    show (leap mask _ _).1 < _
    exact Nat.mod_lt _ (by omega)
  generalize hX : bk mask 13 (bits h % (mask + 1), bits h) = X at hp hlt
  obtain ⟨x, p⟩ := X
  dsimp only at hp hlt
  subst hp
  obtain ⟨n, hn, e⟩ := reach_mod k x j (by omega)
  rw [← hm] at hn e
  obtain ⟨m, hm', em⟩ := block_at mask (13 + n) (bits h % (mask + 1)) (bits h)
  refine ⟨m, by omega, ?_⟩
  show (itr mask m (st mask h)).j = j
  unfold st
  rw [em, bk_add, hX]
  show (bk mask n (x, 0)).1 = j
  rw [bk_zero _ _ _ hlt, e]
theorem least {P : Nat → Prop} : ∀ b, (∃ n, n < b ∧ P n) → ∃ n, n < b ∧ P n ∧ ∀ m, m < n → ¬ P m
  | 0, ⟨_, h, _⟩ => absurd h (Nat.not_lt_zero _)
  | b + 1, ⟨n, hn, hp⟩ => by
    rcases Classical.em (∃ n, n < b ∧ P n) with c | c
    · obtain ⟨m, h1, h2, h3⟩ := least b c
      exact ⟨m, by omega, h2, h3⟩
    · have e : n = b := by
        rcases Nat.lt_or_ge n b with z | z
        · exact absurd ⟨n, z, hp⟩ c
        · omega
      subst e
      exact ⟨n, by omega, hp, fun m hm q => c ⟨m, hm, q⟩⟩
theorem first_free {mask k : Nat} (hm : mask + 1 = 2 ^ k) (h : Int) {occ : List Nat} (ho : ∃ j, j ≤ mask ∧ j ∉ occ) : ∃ n, n < 10 * (mask + 14) ∧ pos mask h n ∉ occ ∧ ∀ m, m < n → pos mask h m ∈ occ := by
  obtain ⟨j, hj, hn⟩ := ho
  obtain ⟨n, h1, h2⟩ := covers hm h hj
  obtain ⟨m, a, b, c⟩ := least (P := fun n => pos mask h n ∉ occ) (10 * (mask + 14)) ⟨n, h1, by show pos mask h n ∉ occ; rw [h2]; exact hn⟩
  exact ⟨m, a, b, fun q hq => Classical.byContradiction fun z => c q hq z⟩
theorem pos_le (mask : Nat) (h : Int) : ∀ n, pos mask h n ≤ mask ∧ (itr mask n (st mask h)).j + (itr mask n (st mask h)).more ≤ mask
  | 0 => by
    have h1 : bits h % (mask + 1) < mask + 1 := Nat.mod_lt _ (by omega)
    refine ⟨by show bits h % (mask + 1) ≤ mask; omega, ?_⟩
    show bits h % (mask + 1) + (runEnd mask (bits h % (mask + 1)) - bits h % (mask + 1)) ≤ mask
    unfold runEnd; split <;> omega
  | n + 1 => by
    obtain ⟨_, ih⟩ := pos_le mask h n
    unfold pos
    rw [itr_succ]
    generalize itr mask n (st mask h) = p at *
    unfold adv
    split
    · exact ⟨by show p.j + 1 ≤ mask; omega, by show p.j + 1 + (p.more - 1) ≤ mask; omega⟩
    · have h1 : (leap mask p.i p.perturb).1 < mask + 1 := Nat.mod_lt _ (by omega)
      generalize (leap mask p.i p.perturb).1 = i at *
      refine ⟨by show i ≤ mask; omega, ?_⟩
      show i + (runEnd mask i - i) ≤ mask
      unfold runEnd; split <;> omega
theorem itr_dummy (mask : Nat) (h : Int) : ∀ n, (itr mask n (st mask h)).dummy = none
  | 0 => rfl
  | n + 1 => by
    rw [itr_succ]
    have ih := itr_dummy mask h n
    unfold adv
    split <;> exact ih
end ST

namespace ST
open PySem PySem.SetTable
def Ris (xs : List Nat) : Prop := xs.Pairwise (· < ·)
theorem Ris.get {xs : Array Nat} (hr : Ris xs.toList) {i j : Nat} (hi : i < xs.size) (hj : j < xs.size) (h : i < j) : xs[i] < xs[j] := by
  have := List.pairwise_iff_getElem.mp hr i j (by simpa using hi) (by simpa using hj) h
  simpa using this
theorem Ris.get_le {xs : Array Nat} (hr : Ris xs.toList) {i j : Nat} (hi : i < xs.size) (hj : j < xs.size) (h : i ≤ j) : xs[i] ≤ xs[j] := by
  rcases Nat.lt_or_ge i j with c | c
  · exact Nat.le_of_lt (hr.get hi hj c)
  · have : i = j := by omega
    subst this; exact Nat.le_refl _
def Split (xs : Array Nat) (j r : Nat) : Prop := r ≤ xs.size ∧ (∀ i (h : i < xs.size), i < r → xs[i] < j) ∧ ∀ i (h : i < xs.size), r ≤ i → j ≤ xs[i]
theorem below_go {xs : Array Nat} (hr : Ris xs.toList) (j : Nat) : ∀ fuel lo hi, lo ≤ hi → hi ≤ xs.size → hi - lo ≤ fuel → (∀ i (h : i < xs.size), i < lo → xs[i] < j) → (∀ i (h : i < xs.size), hi ≤ i → j ≤ xs[i]) → Split xs j (below.go xs j fuel lo hi)
  | 0, lo, hi, h1, h2, h3, a, b => by
    have : lo = hi := by omega
    subst this
    exact ⟨h2, a, b⟩
  | fuel + 1, lo, hi, h1, h2, h3, a, b => by
    unfold below.go
    by_cases c : lo < hi
    · rw [if_pos c]
      dsimp only
      have hm : (lo + hi) / 2 < xs.size := by omega
      rw [show xs.getD ((lo + hi) / 2) j = xs[(lo + hi) / 2] by simp [Array.getD, hm]]
      by_cases d : xs[(lo + hi) / 2] < j
      · rw [if_pos d]
        exact below_go hr j fuel _ _ (by omega) h2 (by omega) (fun i h q => Nat.lt_of_le_of_lt (hr.get_le h hm (by omega)) d) b
      · rw [if_neg d]
        exact below_go hr j fuel _ _ (by omega) (by omega) (by omega) a (fun i h q => Nat.le_trans (by omega) (hr.get_le hm h q))
    · rw [if_neg c]
      have : lo = hi := by omega
      subst this
      exact ⟨h2, a, b⟩
theorem below_spec {xs : Array Nat} (hr : Ris xs.toList) (j : Nat) : Split xs j (below xs j) :=
  below_go hr j _ _ _ (Nat.zero_le _) (Nat.le_refl _) (by omega) (fun i h q => absurd q (Nat.not_lt_zero _)) (fun i h q => absurd h (by omega))
theorem below_at {xs : Array Nat} (hr : Ris xs.toList) {i j : Nat} (h : xs[i]? = some j) : below xs j = i := by
  obtain ⟨hi, e⟩ := Array.getElem?_eq_some_iff.mp h
  obtain ⟨h1, h2, h3⟩ := below_spec hr j
  rcases Nat.lt_trichotomy (below xs j) i with c | c | c
  · have := h3 _ (by omega) (Nat.le_refl (below xs j))
    have := hr.get (i := below xs j) (j := i) (by omega) hi c
    omega
  · exact c
  · have := h2 i hi c
    omega
theorem slot_live {t : SetTable} (hr : Ris t.place.toList) {i j : Nat} (h : t.place[i]? = some j) : t.slot j = .live i := by
  unfold SetTable.slot
  dsimp only
  rw [below_at hr h, h]
  simp
theorem slot_empty {t : SetTable} (hd : t.dummies = #[]) {j : Nat} (h : j ∉ t.place.toList) : t.slot j = .empty := by
  unfold SetTable.slot
  dsimp only
  have e : (t.place[below t.place j]? == some j) = false := by
    rw [beq_eq_false_iff_ne]
    intro q
    obtain ⟨hi, e⟩ := Array.getElem?_eq_some_iff.mp q
    exact h (by rw [← e]; simp)
  rw [e, hd]
  simp [has]
theorem slot_mem {t : SetTable} (hr : Ris t.place.toList) {j : Nat} (h : j ∈ t.place.toList) : ∃ i, t.place[i]? = some j ∧ t.slot j = .live i := by
  obtain ⟨i, hi, e⟩ := List.getElem_of_mem h
  have : t.place[i]? = some j := by rw [← Array.getElem?_toList, List.getElem?_eq_getElem hi, e]
  exact ⟨i, this, slot_live hr this⟩
theorem pigeon : ∀ (n : Nat) (xs : List Nat), (∀ j, j < n → j ∈ xs) → n ≤ xs.length
  | 0, _, _ => Nat.zero_le _
  | n + 1, xs, h => by
    have hn := h n (by omega)
    have := pigeon n (xs.erase n) fun j hj => (List.mem_erase_of_ne (by omega)).mpr (h j (by omega))
    rw [List.length_erase_of_mem hn] at this
    have : 0 < xs.length := List.length_pos_of_mem hn
    omega
theorem some_free {mask : Nat} {xs : List Nat} (h : xs.length ≤ mask) : ∃ j, j ≤ mask ∧ j ∉ xs := by
  refine Classical.byContradiction fun c => ?_
  have := pigeon (mask + 1) xs fun j hj => Classical.byContradiction fun q => c ⟨j, by omega, q⟩
  omega
structure Good (t : SetTable) (hs : List Int) : Prop where
  pw : ∃ k, 3 ≤ k ∧ t.mask + 1 = 2 ^ k
  dum : t.dummies = #[]
  ris : Ris t.place.toList
  le : ∀ j ∈ t.place.toList, j ≤ t.mask
  len : t.place.size = hs.length
  room : t.place.size ≤ t.mask
  reach : ∀ x ∈ t.place.toList.zip hs, ∃ q, pos t.mask x.2 q = x.1 ∧ ∀ m, m < q → pos t.mask x.2 m ∈ t.place.toList
theorem Good.free {t : SetTable} {hs : List Int} (g : Good t hs) (h : Int) : ∃ n, n < 10 * (t.mask + 14) ∧ pos t.mask h n ∉ t.place.toList ∧ ∀ m, m < n → pos t.mask h m ∈ t.place.toList := by
  obtain ⟨k, _, hk⟩ := g.pw
  exact first_free hk h (some_free (by rw [Array.length_toList]; exact g.room))
theorem Good.fits {t : SetTable} {hs : List Int} (g : Good t hs) : t.fits hs.length = true := by
  unfold SetTable.fits SetTable.fill
  rw [g.dum, g.len]
  have := g.room
  rw [g.len] at this
  simp [this]
theorem probe_go {t : SetTable} {hs : List Int} (g : Good t hs) (h : Int) {N : Nat} (hN : pos t.mask h N ∉ t.place.toList) (hO : ∀ m, m < N → pos t.mask h m ∈ t.place.toList) (hashAt : Nat → Int) :
    ∀ fuel q, q ≤ N → N - q < fuel →
      (probe.go t hashAt h fuel (itr t.mask q (st t.mask h)) = some (.empty (pos t.mask h N) none) ∧ ∀ m i, q ≤ m → m < N → t.slot (pos t.mask h m) = .live i → hashAt i ≠ h) ∨
      ∃ m i, q ≤ m ∧ m < N ∧ t.slot (pos t.mask h m) = .live i ∧ hashAt i = h ∧ probe.go t hashAt h fuel (itr t.mask q (st t.mask h)) = some (.candidate (pos t.mask h m) i (itr t.mask (m + 1) (st t.mask h))) ∧
        ∀ m' i, q ≤ m' → m' < m → t.slot (pos t.mask h m') = .live i → hashAt i ≠ h
  | 0, q, h1, h2 => absurd h2 (Nat.not_lt_zero _)
  | fuel + 1, q, h1, h2 => by
    unfold probe.go
    by_cases e : q = N
    · subst e
      rw [show t.slot (itr t.mask q (st t.mask h)).j = .empty from slot_empty g.dum hN]
      refine .inl ⟨?_, fun m i a b => absurd b (by omega)⟩
      show some (Met.empty (itr t.mask q (st t.mask h)).j (itr t.mask q (st t.mask h)).dummy) = _
      rw [itr_dummy]; rfl
    · obtain ⟨i, hi, hs'⟩ := slot_mem g.ris (hO q (by omega))
      rw [show t.slot (itr t.mask q (st t.mask h)).j = .live i from hs']
      dsimp only
      rw [show t.advance (itr t.mask q (st t.mask h)) = itr t.mask (q + 1) (st t.mask h) by rw [advance_eq, ← itr_succ]]
      by_cases c : hashAt i = h
      · rw [if_pos (by rw [c]; exact beq_self_eq_true h)]
        exact .inr ⟨q, i, Nat.le_refl _, by omega, hs', c, rfl, fun m' i a b => absurd b (by omega)⟩
      · rw [if_neg (by simpa using c)]
        rcases probe_go g h hN hO hashAt fuel (q + 1) (by omega) (by omega) with ⟨a, b⟩ | ⟨m, i', a1, a2, a3, a4, a5, a6⟩
        · refine .inl ⟨a, fun m i' h1' h2' h3' => ?_⟩
          by_cases z : m = q
          · subst z; rw [hs'] at h3'; cases h3'; exact c
          · exact b m i' (by omega) h2' h3'
        · refine .inr ⟨m, i', by omega, a2, a3, a4, a5, fun m' i'' h1' h2' h3' => ?_⟩
          by_cases z : m' = q
          · subst z; rw [hs'] at h3'; cases h3'; exact c
          · exact a6 m' i'' (by omega) h2' h3'
/-! ### one more -/
theorem toList_insertAt {α : Type} (xs : Array α) (p : Nat) (x : α) : (insertAt xs p x).toList = xs.toList.take p ++ x :: xs.toList.drop p := by
  unfold insertAt
  simp [Array.toList_extract, List.take_of_length_le]
theorem ris_insert {xs : Array Nat} (hr : Ris xs.toList) {j : Nat} (hn : j ∉ xs.toList) : Ris (insertAt xs (below xs j) j).toList := by
  obtain ⟨h1, h2, h3⟩ := below_spec hr j
  rw [toList_insertAt]
  unfold Ris at *
  have low : ∀ a ∈ xs.toList.take (below xs j), a < j := fun a ha => by
    obtain ⟨i, hi, e⟩ := List.getElem_of_mem ha
    rw [List.length_take] at hi
    rw [List.getElem_take] at e
    have := h2 i (by rw [Array.length_toList] at hi; omega) (by omega)
    rw [← e]; simpa using this
  have high : ∀ a ∈ xs.toList.drop (below xs j), j < a := fun a ha => by
    have hm := List.mem_of_mem_drop ha
    obtain ⟨i, hi, e⟩ := List.getElem_of_mem ha
    rw [List.length_drop, Array.length_toList] at hi
    rw [List.getElem_drop] at e
    have := h3 (below xs j + i) (by omega) (by omega)
    have e' : xs[below xs j + i] = a := by rw [← e]; simp
    rcases Nat.lt_or_ge j a with q | q
    · exact q
    · exact absurd (by rw [show j = a by omega]; exact hm) hn
  rw [List.pairwise_append]
  refine ⟨hr.sublist (List.take_sublist _ _), ?_, fun a ha b hb => ?_⟩
  · rw [List.pairwise_cons]
    exact ⟨high, hr.sublist (List.drop_sublist _ _)⟩
  · rcases List.mem_cons.mp hb with rfl | hb
    · exact low a ha
    · exact Nat.lt_trans (low a ha) (high b hb)
def insL {α : Type} (xs : List α) (p : Nat) (x : α) : List α := xs.take p ++ x :: xs.drop p
theorem insL_perm {α : Type} (xs : List α) (p : Nat) (x : α) : (insL xs p x).Perm (x :: xs) := by
  unfold insL
  refine List.perm_middle.trans ?_
  rw [List.take_append_drop]
theorem zip_insL {α β : Type} {xs : List α} {ys : List β} (h : xs.length = ys.length) (p : Nat) (x : α) (y : β) : (insL xs p x).zip (insL ys p y) = insL (xs.zip ys) p (x, y) := by
  unfold insL
  rw [List.zip_append (by simp [h]), List.zip_cons_cons]
  simp only [List.zip, List.take_zipWith, List.drop_zipWith]
theorem Good.put {t : SetTable} {hs : List Int} (g : Good t hs) {h : Int} {n : Nat} (hn : pos t.mask h n ∉ t.place.toList) (ho : ∀ m, m < n → pos t.mask h m ∈ t.place.toList) (hr : t.place.size < t.mask) (pl : Bool) :
    Good { (t.put (pos t.mask h n)).1 with plain := pl } (insL hs (below t.place (pos t.mask h n)) h) := by
  have hl : t.place.toList.length = hs.length := by rw [Array.length_toList]; exact g.len
  have e : (insertAt t.place (below t.place (pos t.mask h n)) (pos t.mask h n)).toList = insL t.place.toList (below t.place (pos t.mask h n)) (pos t.mask h n) := toList_insertAt _ _ _
  have mem : ∀ a, a ∈ (insertAt t.place (below t.place (pos t.mask h n)) (pos t.mask h n)).toList ↔ a = pos t.mask h n ∨ a ∈ t.place.toList := fun a => by
    rw [e, (insL_perm _ _ _).mem_iff, List.mem_cons]
  have ln : (insertAt t.place (below t.place (pos t.mask h n)) (pos t.mask h n)).size = t.place.size + 1 := by
    rw [← Array.length_toList, e, (insL_perm _ _ _).length_eq, List.length_cons, Array.length_toList]
  refine ⟨g.pw, ?_, ris_insert g.ris hn, fun j hj => ?_, ?_, ?_, fun x hx => ?_⟩
  · show (if has t.dummies (pos t.mask h n) = true then eraseAt t.dummies (below t.dummies (pos t.mask h n)) else t.dummies) = #[]
    rw [g.dum]; simp [has]
  · rcases (mem j).mp hj with rfl | q
    · exact (pos_le _ _ _).1
    · exact g.le j q
  · show (insertAt t.place _ _).size = _
    rw [ln, (insL_perm _ _ _).length_eq, List.length_cons, g.len]
  · show (insertAt t.place _ _).size ≤ t.mask
    rw [ln]; exact hr
  · show ∃ q, pos t.mask x.2 q = x.1 ∧ ∀ m, m < q → pos t.mask x.2 m ∈ (insertAt t.place _ _).toList
    have hx' : x ∈ (insertAt t.place (below t.place (pos t.mask h n)) (pos t.mask h n)).toList.zip (insL hs (below t.place (pos t.mask h n)) h) := hx
    rw [e, zip_insL hl, (insL_perm _ _ _).mem_iff, List.mem_cons] at hx'
    rcases hx' with rfl | q
    · exact ⟨n, rfl, fun m hm => (mem _).mpr (.inr (ho m hm))⟩
    · obtain ⟨q', a, b⟩ := g.reach x q
      exact ⟨q', a, fun m hm => (mem _).mpr (.inr (b m hm))⟩
end ST

namespace ST
open PySem PySem.SetTable
/-! ### all laid anew -/
abbrev Ow := Array (Option Nat)
def taken (o : Ow) : List Nat := (List.range o.size).filter fun j => (o.getD j none).isSome
theorem mem_taken {o : Ow} {j : Nat} : j ∈ taken o ↔ ∃ i, o[j]? = some (some i) := by
  unfold taken
  rw [List.mem_filter, List.mem_range]
  constructor
  · rintro ⟨h1, h2⟩
    have e : o.getD j none = o[j] := by simp [Array.getD, h1]
    rw [e] at h2
    obtain ⟨i, hi⟩ := Option.isSome_iff_exists.mp h2
    exact ⟨i, by rw [Array.getElem?_eq_getElem h1, hi]⟩
  · rintro ⟨i, hi⟩
    obtain ⟨h1, e⟩ := Array.getElem?_eq_some_iff.mp hi
    refine ⟨h1, ?_⟩
    simp [Array.getD, h1, e]
theorem free_test {o : Ow} {j : Nat} (h : j < o.size) : ((o.getD j (some 0)).isNone = true ↔ j ∉ taken o) := by
  rw [mem_taken]
  have e : o.getD j (some 0) = o[j] := by simp [Array.getD, h]
  rw [e, Array.getElem?_eq_getElem h]
  cases o[j] <;> simp
theorem free_go {mask : Nat} {o : Ow} (hsz : o.size = mask + 1) (h : Int) : ∀ m fuel i p n, m < fuel → i ≤ mask → itr mask n (st mask h) = blockAt mask i p → (bk mask m (i, p)).1 ∉ taken o →
    ∃ N, n ≤ N ∧ layClean.free mask o fuel i p = some (pos mask h N) ∧ pos mask h N ∉ taken o ∧ ∀ q, n ≤ q → q < N → pos mask h q ∈ taken o
  | m, 0, i, p, n, hf, hi, hn, hb => absurd hf (Nat.not_lt_zero _)
  | m, fuel + 1, i, p, n, hf, hi, hn, hb => by
    have hrun : ∀ k, k ≤ runEnd mask i - i → pos mask h (n + k) = i + k := fun k hk => by
      show (itr mask (n + k) (st mask h)).j = i + k
      rw [itr_add, hn, itr_run mask k (blockAt mask i p) hk]
      rfl
    have hre : i ≤ runEnd mask i ∧ runEnd mask i ≤ mask := by unfold runEnd; split <;> omega
    have ht : ∀ k, k ≤ runEnd mask i - i → ((o.getD (i + k) (some 0)).isNone = true ↔ pos mask h (n + k) ∉ taken o) := fun k hk => by
      rw [hrun k hk]; exact free_test (by omega)
    unfold layClean.free
    cases hf' : (List.range (runEnd mask i + 1 - i)).find? fun k => (o.getD (i + k) (some 0)).isNone with
    | some k =>
      obtain ⟨a, b, c⟩ := List.find?_range_eq_some.mp hf'
      rw [List.mem_range] at b
      refine ⟨n + k, by omega, ?_, (ht k (by omega)).mp a, fun q h1 h2 => ?_⟩
      · rw [hrun k (by omega)]
      · have d := c (q - n) (by omega)
        have z := ht (q - n) (by omega)
        rw [show n + (q - n) = q by omega] at z
        refine Classical.byContradiction fun y => ?_
        rw [z.mpr y] at d
        cases d
    | none =>
      have all : ∀ k, k ≤ runEnd mask i - i → pos mask h (n + k) ∈ taken o := fun k hk => by
        have d := List.find?_range_eq_none.mp hf' k (by omega)
        have z := ht k hk
        refine Classical.byContradiction fun y => ?_
        rw [z.mpr y] at d
        cases d
      dsimp only
      cases m with
      | zero =>
        have := all 0 (Nat.zero_le _)
        rw [hrun 0 (Nat.zero_le _)] at this
        exact absurd this hb
      | succ m =>
        have hl : (leap mask i p).1 ≤ mask := Nat.le_of_lt_succ (Nat.mod_lt _ (by omega))
        obtain ⟨N, a, b, c, d⟩ := free_go hsz h m fuel (leap mask i p).1 (leap mask i p).2 (n + (runEnd mask i - i + 1)) (by omega) hl (by rw [itr_add, hn, itr_block]) hb
        refine ⟨N, by omega, b, c, fun q h1 h2 => ?_⟩
        by_cases z : q < n + (runEnd mask i - i + 1)
        · have := all (q - n) (by omega)
          rwa [show n + (q - n) = q by omega] at this
        · exact d q (by omega) h2
theorem covers_bk {mask k : Nat} (hm : mask + 1 = 2 ^ k) (h : Int) {j : Nat} (hj : j ≤ mask) : ∃ m, m < mask + 15 ∧ (bk mask m (bits h % (mask + 1), bits h)).1 = j := by
  have hp : (bk mask 13 (bits h % (mask + 1), bits h)).2 = 0 := by
    rw [bk_perturb]
    refine Nat.div_eq_of_lt (Nat.lt_of_lt_of_le (bits_lt h) (by decide))
  have hlt : (bk mask 13 (bits h % (mask + 1), bits h)).1 < mask + 1 := by
    show (bk mask (12 + 1) _).1 < _
    rw [bk_add]
    show (leap mask _ _).1 < _
    exact Nat.mod_lt _ (by omega)
  generalize hX : bk mask 13 (bits h % (mask + 1), bits h) = X at hp hlt
  obtain ⟨x, p⟩ := X
  dsimp only at hp hlt
  subst hp
  obtain ⟨n, hn, e⟩ := reach_mod k x j (by omega)
  rw [← hm] at hn e
  refine ⟨13 + n, by omega, ?_⟩
  rw [bk_add, hX]
  show (bk mask n (x, 0)).1 = j
  rw [bk_zero _ _ _ hlt, e]
theorem free_some {mask k : Nat} (hm : mask + 1 = 2 ^ k) {o : Ow} (hsz : o.size = mask + 1) (ho : ∃ j, j ≤ mask ∧ j ∉ taken o) (h : Int) :
    ∃ N, layClean.free mask o (turns mask) (bits h % (mask + 1)) (bits h) = some (pos mask h N) ∧ pos mask h N ∉ taken o ∧ ∀ q, q < N → pos mask h q ∈ taken o := by
  obtain ⟨j, hj, hn⟩ := ho
  obtain ⟨m, h1, h2⟩ := covers_bk hm h hj
  obtain ⟨N, _, b, c, d⟩ := free_go hsz h m (turns mask) (bits h % (mask + 1)) (bits h) 0 (by unfold turns; omega) (Nat.le_of_lt_succ (Nat.mod_lt _ (by omega))) rfl (by rw [h2]; exact hn)
  exact ⟨N, b, c, fun q hq => d q (Nat.zero_le _) hq⟩
structure Laid (mask : Nat) (hs : List Int) (o : Ow) (n : Nat) : Prop where
  sz : o.size = mask + 1
  lt : ∀ j i : Nat, o[j]? = some (some i) → i < n
  all : ∀ i, i < n → ∃ j : Nat, o[j]? = some (some i)
  inj : ∀ j j' i : Nat, o[j]? = some (some i) → o[j']? = some (some i) → j = j'
  reach : ∀ (j i : Nat) (h : Int), o[j]? = some (some i) → hs[i]? = some h → ∃ q, pos mask h q = j ∧ ∀ m, m < q → pos mask h m ∈ taken o
theorem taken_length {mask : Nat} {hs : List Int} {o : Ow} {n : Nat} (L : Laid mask hs o n) : (taken o).length ≤ n := by
  -- an injective list of owners
  have hnd : (taken o).Nodup := List.Nodup.sublist List.filter_sublist List.nodup_range
  have key : ∀ (l : List Nat) (n : Nat), l.Nodup → (∀ j ∈ l, ∃ i : Nat, i < n ∧ o[j]? = some (some i)) → l.length ≤ n := by
    intro l
    induction l with
    | nil => intro n _ _; exact Nat.zero_le _
    | cons a r ih =>
      intro n hd hl
      have own : ∀ j ∈ a :: r, ∃ i : Nat, i < n ∧ o[j]? = some (some i) := hl
      let f : Nat → Nat := fun j => match o[j]? with | some (some i) => i | _ => 0
      have hf : ∀ j ∈ a :: r, o[j]? = some (some (f j)) := fun j hj => by
        obtain ⟨i, _, e⟩ := own j hj
        show o[j]? = some (some (match o[j]? with | some (some i) => i | _ => 0))
        rw [e]
      have h1 : ((a :: r).map f).Nodup := by
        rw [List.nodup_iff_pairwise_ne, List.pairwise_map]
        refine List.Pairwise.imp_of_mem (R := fun x y => x ≠ y) (fun {x y} hx hy hne e => hne ?_) (List.nodup_iff_pairwise_ne.mp hd)
        exact L.inj x y (f x) (hf x hx) (by rw [e]; exact hf y hy)
      have h2 : ∀ i ∈ (a :: r).map f, i < n := fun i hi => by
        obtain ⟨j, hj, rfl⟩ := List.mem_map.mp hi
        obtain ⟨i', h, e⟩ := own j hj
        have := hf j hj
        rw [e] at this; cases this; exact h
      have p : ((a :: r).map f).length ≤ (List.range n).length := List.Nodup.length_le_of_subset h1 fun i hi => List.mem_range.mpr (h2 i hi)
      rwa [List.length_map, List.length_range] at p
  exact key _ n hnd fun j hj => let ⟨i, e⟩ := mem_taken.mp hj; ⟨i, L.lt j i e, e⟩
end ST

namespace ST
open PySem PySem.SetTable
theorem taken_set {o : Ow} {j n : Nat} (hj : j < o.size) (a : Nat) : a ∈ taken (o.setIfInBounds j (some n)) ↔ a = j ∨ a ∈ taken o := by
  rw [mem_taken, mem_taken]
  by_cases e : a = j
  · subst e
    simp [Array.getElem?_setIfInBounds, hj]
  · have : (o.setIfInBounds j (some n))[a]? = o[a]? := by rw [Array.getElem?_setIfInBounds, if_neg (fun h => e h.symm)]
    rw [this]; simp [e]
theorem Laid.more {mask k : Nat} {hs : List Int} {o : Ow} {n : Nat} (hm : mask + 1 = 2 ^ k) (L : Laid mask hs o n) (hn : n ≤ mask) {h : Int} (hh : hs[n]? = some h) :
    ∃ j, layClean.free mask o (turns mask) (bits h % (mask + 1)) (bits h) = some j ∧ Laid mask hs (o.setIfInBounds j (some n)) (n + 1) := by
  obtain ⟨N, a, b, c⟩ := free_some hm L.sz (some_free (Nat.le_trans (taken_length L) hn)) h
  have hj : pos mask h N < o.size := by rw [L.sz]; exact Nat.lt_succ_of_le (pos_le mask h N).1
  refine ⟨_, a, ?_⟩
  generalize hJ : pos mask h N = J at *
  have at_ : ∀ x i : Nat, (o.setIfInBounds J (some n))[x]? = some (some i) → (x = J ∧ i = n) ∨ (x ≠ J ∧ o[x]? = some (some i)) := fun x i e => by
    rw [Array.getElem?_setIfInBounds] at e
    by_cases z : J = x
    · subst z
      rw [if_pos rfl, if_pos hj] at e
      cases e; exact .inl ⟨rfl, rfl⟩
    · rw [if_neg z] at e
      exact .inr ⟨fun q => z q.symm, e⟩
  have hJf : ∀ i, o[J]? ≠ some (some i) := fun i e => b (mem_taken.mpr ⟨i, e⟩)
  refine ⟨by rw [Array.size_setIfInBounds]; exact L.sz, fun x i e => ?_, fun i hi => ?_, fun x y i e1 e2 => ?_, fun x i h' e1 e2 => ?_⟩
  · rcases at_ x i e with ⟨_, rfl⟩ | ⟨_, e⟩
    · exact Nat.lt_succ_self _
    · exact Nat.lt_succ_of_lt (L.lt x i e)
  · by_cases z : i = n
    · subst z
      exact ⟨J, by rw [Array.getElem?_setIfInBounds, if_pos rfl, if_pos hj]⟩
    · obtain ⟨x, e⟩ := L.all i (by omega)
      refine ⟨x, ?_⟩
      rw [Array.getElem?_setIfInBounds, if_neg (fun q => by subst q; exact hJf i e)]
      exact e
  · rcases at_ x i e1 with ⟨rfl, rfl⟩ | ⟨n1, f1⟩
    · rcases at_ y i e2 with ⟨rfl, _⟩ | ⟨n2, e2⟩
      · rfl
      · exact absurd (L.lt y i e2) (Nat.lt_irrefl _)
    · rcases at_ y i e2 with ⟨rfl, rfl⟩ | ⟨n2, f2⟩
      · exact absurd (L.lt x i f1) (Nat.lt_irrefl _)
      · exact L.inj x y i f1 f2
  · rcases at_ x i e1 with ⟨rfl, rfl⟩ | ⟨n1, e1⟩
    · rw [hh] at e2; cases e2
      exact ⟨N, hJ, fun m hm => (taken_set hj _).mpr (.inr (c m hm))⟩
    · obtain ⟨q, q1, q2⟩ := L.reach x i h' e1 e2
      exact ⟨q, q1, fun m hm => (taken_set hj _).mpr (.inr (q2 m hm))⟩
theorem layClean_fold {mask k : Nat} (hm : mask + 1 = 2 ^ k) {hs : List Int} (hl : hs.length ≤ mask + 1) : ∀ (rest pre : List Int) (o : Ow), hs = pre ++ rest → Laid mask hs o pre.length →
    ∃ o', rest.foldl (fun acc h => do let (owner, k) ← acc; let j ← layClean.free mask owner (turns mask) (bits h % (mask + 1)) (bits h); pure (owner.setIfInBounds j (some k), k + 1)) (some (o, pre.length)) = some (o', hs.length) ∧ Laid mask hs o' hs.length
  | [], pre, o, e, L => by
    rw [List.append_nil] at e; subst e
    exact ⟨o, rfl, L⟩
  | h :: rest, pre, o, e, L => by
    have hh : hs[pre.length]? = some h := by rw [e]; simp
    have hlen : pre.length ≤ mask := by
      have := congrArg List.length e
      rw [List.length_append, List.length_cons] at this
      omega
    obtain ⟨j, a, b⟩ := L.more hm hlen hh
    obtain ⟨o', c, d⟩ := layClean_fold hm hl rest (pre ++ [h]) (o.setIfInBounds j (some pre.length)) (by rw [List.append_assoc]; exact e) (by rw [List.length_append]; exact b)
    refine ⟨o', ?_, d⟩
    rw [List.foldl_cons, ← c]
    congr 1
    show (do let j ← layClean.free mask o (turns mask) (bits h % (mask + 1)) (bits h); pure (o.setIfInBounds j (some pre.length), pre.length + 1)) = _
    rw [a, List.length_append]
    rfl
theorem layClean_some {mask k : Nat} (hm : mask + 1 = 2 ^ k) {hs : Array Int} (hl : hs.size ≤ mask + 1) : ∃ o, layClean mask hs = some o ∧ Laid mask hs.toList o hs.size := by
  have L0 : Laid mask hs.toList (Array.replicate (mask + 1) none) ([] : List Int).length :=
    ⟨by simp, fun j i e => by
      rw [Array.getElem?_replicate] at e
      split at e <;> simp at e, fun i hi => absurd hi (Nat.not_lt_zero _), fun j j' i e => by
      rw [Array.getElem?_replicate] at e
      split at e <;> simp at e, fun j i h e => by
      rw [Array.getElem?_replicate] at e
      split at e <;> simp at e⟩
  obtain ⟨o, a, b⟩ := layClean_fold hm (by simpa using hl) hs.toList [] _ rfl L0
  refine ⟨o, ?_, by simpa using b⟩
  unfold layClean
  rw [← Array.foldl_toList]
  show Option.map _ (List.foldl _ (some (Array.replicate (mask + 1) none, ([] : List Int).length)) hs.toList) = _
  rw [a]
  rfl
theorem sizeAbove_go (w : Nat) : ∀ fuel k, w < 2 ^ fuel * 2 ^ k → ∃ k', k ≤ k' ∧ sizeAbove.go w fuel (2 ^ k) = 2 ^ k' ∧ w < 2 ^ k' ∧ (2 ^ k' = 2 ^ k ∨ 2 ^ k' ≤ 2 * w)
  | 0, k, h => ⟨k, Nat.le_refl _, rfl, by simpa using h, .inl rfl⟩
  | fuel + 1, k, h => by
    unfold sizeAbove.go
    by_cases c : 2 ^ k ≤ w
    · rw [if_pos c, ← Nat.pow_succ]
      obtain ⟨k', a, b, d, e⟩ := sizeAbove_go w fuel (k + 1) (by rw [Nat.pow_succ] at h ⊢; rw [Nat.mul_comm (2 ^ k) 2, ← Nat.mul_assoc]; exact h)
      refine ⟨k', by omega, b, d, .inr ?_⟩
      rcases e with e | e
      · rw [e, Nat.pow_succ]; omega
      · exact e
    · rw [if_neg c]
      exact ⟨k, Nat.le_refl _, rfl, by omega, .inl rfl⟩
theorem sizeAbove_spec {w : Nat} (h : w < 2 ^ 60) : ∃ k, 3 ≤ k ∧ sizeAbove w = 2 ^ k ∧ w < 2 ^ k ∧ (2 ^ k = 8 ∨ 2 ^ k ≤ 2 * w) :=
  sizeAbove_go w 64 3 (Nat.lt_of_lt_of_le h (by decide))
def liveOf (mask : Nat) (o : Ow) : List (Nat × Nat) := (List.range (mask + 1)).filterMap fun j => (o.getD j none).map (j, ·)
theorem mem_live {mask : Nat} {o : Ow} (hs : o.size = mask + 1) {j i : Nat} : (j, i) ∈ liveOf mask o ↔ o[j]? = some (some i) := by
  unfold liveOf
  rw [List.mem_filterMap]
  constructor
  · rintro ⟨a, ha, e⟩
    rw [List.mem_range] at ha
    have g : o.getD a none = o[a] := by simp [Array.getD, show a < o.size by omega]
    rw [g, Option.map_eq_some_iff] at e
    obtain ⟨b, e1, e2⟩ := e
    cases e2
    rw [Array.getElem?_eq_getElem (by omega), e1]
  · intro e
    obtain ⟨h1, e1⟩ := Array.getElem?_eq_some_iff.mp e
    refine ⟨j, List.mem_range.mpr (by omega), ?_⟩
    have g : o.getD j none = o[j] := by simp [Array.getD, h1]
    rw [g, e1]; rfl
theorem live_ris (mask : Nat) (o : Ow) : Ris ((liveOf mask o).map (·.1)) := by
  unfold liveOf Ris
  have key : ∀ l : List Nat, l.Pairwise (· < ·) → ((l.filterMap fun j => (o.getD j none).map (j, ·)).map (·.1)).Pairwise (· < ·) ∧ ∀ x ∈ (l.filterMap fun j => (o.getD j none).map (j, ·)).map (·.1), x ∈ l := by
    intro l
    induction l with
    | nil => intro _; exact ⟨by simp, by simp⟩
    | cons a r ih =>
      intro h
      rw [List.pairwise_cons] at h
      obtain ⟨p, q⟩ := ih h.2
      rw [List.filterMap_cons]
      cases hc : (o.getD a none).map (a, ·) with
      | none => exact ⟨p, fun x hx => List.mem_cons_of_mem _ (q x hx)⟩
      | some y =>
        rw [Option.map_eq_some_iff] at hc
        obtain ⟨b, _, rfl⟩ := hc
        rw [List.map_cons, List.pairwise_cons]
        refine ⟨⟨fun x hx => h.1 x (q x hx), p⟩, fun x hx => ?_⟩
        rcases List.mem_cons.mp hx with rfl | hx
        · exact List.mem_cons_self
        · exact List.mem_cons_of_mem _ (q x hx)
  exact (key _ List.pairwise_lt_range).1
theorem range_picks {α : Type} (l : List α) : (List.range l.length).filterMap (fun i => l[i]?) = l := by
  induction l with
  | nil => rfl
  | cons a r ih =>
    rw [List.length_cons, List.range_succ_eq_map, List.filterMap_cons]
    simp only [List.getElem?_cons_zero, List.filterMap_map]
    congr 1
end ST

/-! A set of tuples: what an addition does. -/
namespace PySem
section
variable {prog : Program} {w : World} {K : Type} [DecidableEq K] (knd : KeyKind prog w K)
variable {knd} {A : Around} {E : Value → Shared → Prop} {s : Shared}
end
end PySem

namespace PySem
section
variable {prog : Program} {w : World} {K : Type} [DecidableEq K] {knd : KeyKind prog w K} {A : Around} {E : Value → Shared → Prop} {s : Shared}
open ST in
end
end PySem

namespace PySem
section
variable {prog : Program} {w : World} {K : Type} [DecidableEq K] {knd : KeyKind prog w K} {A : Around} {E : Value → Shared → Prop} {s : Shared}
theorem TupSet_store {h : Heap} {a : Addr} {o : Obj} {es : Array (Int × Value)} {ep : Nat} {t : SetTable} (ho : h.get? a = some o) (hex : o.ExactSet) (hd : o.data = .set es ep t) (es' : Array (Int × Value)) (t' : SetTable) :
    (h.update a (Obj.putSet es' t')).get? a = some { o with data := .set es' (ep + 1) t' } ∧ Heap.SameBut a h (h.update a (Obj.putSet es' t')) ∧ ({ o with data := .set es' (ep + 1) t' } : Obj).ExactSet := by
  have hg : (h.update a (Obj.putSet es' t')).get? a = some { o with data := .set es' (ep + 1) t' } := by
    have := Heap.get?_update_self (Obj.putSet es' t') ho (by rw [putSet_of es' t' hd]; rfl)
    rw [putSet_of es' t' hd] at this; exact this
  exact ⟨hg, Heap.SameBut.update h a _, hex⟩
open ST in
end
end PySem

/-! set(xs): the new set, filled one by one. -/
namespace PySem
abbrev newSetO (led : Bool) : Obj := { cls := .type "set", dict := none, data := .set #[] 0 (.fresh 0 0 led) }
section
variable {prog : Program} {w : World} {A : Around} {E : Value → Shared → Prop} {s : Shared}
end
end PySem

namespace PySem
section
variable {prog : Program} {w : World} {B : Around} {E : Value → Shared → Prop} {s : Shared}
theorem set_loop {R : Result → Shared → Prop} {I : Addr} {fp wr : List Addr} {n : Nat} {P : Nat → Value → Prop} {St : Nat → Heap → Prop} (W : Walks prog w B.in1 I fp wr n P St) (S : Addr) (hSf : S ∉ fp) (Sx : Nat → Heap → Prop)
    (keep : ∀ i j h h', St j h → Sx i h → (∀ b o, b ∉ wr → h.get? b = some o → h'.get? b = some o) → Sx i h')
    (add : ∀ i v (s' : Shared) (Q : Bool → Shared → Prop) (E' : Value → Shared → Prop), i < n → P i v → Sx i s'.heap → (∀ h' tk c, Heap.SameBut S s'.heap h' → Sx (i + 1) h' → Q c { s' with heap := h', toks := tk }) → wpAny (model prog w) B.in1 (setAdd S v) Q E' s') :
    ∀ (k i : Nat) (s : Shared), n - i = k → i ≤ n → St i s.heap → Sx i s.heap →
      (∀ h' tk, (∀ b o, b ∉ wr → b ≠ S → s.heap.get? b = some o → h'.get? b = some o) → Sx n h' → R (.ok (.ret .none)) { s with heap := h', toks := tk }) →
      codeAny (model prog w) B (.builtin "set.update.loop" ⟨[.ref S, .ref I], []⟩) R s := by
  intro k
  induction k with
  | zero =>
    intro i s hk hi st sx hR
    obtain rfl : i = n := by omega
    refine codeAny_builtin PyProof.Rows.F.entry_set_update_loop ?_
    rw [Around.under_plainId PyProof.Rows.F.plain_set_update_loop _]
    show wpAny _ B.in1 (pyNext (.ref I) >>= _) _ _ s
    refine wpAny_bind (W.done s _ _ st fun h' tk hm => ?_)
    show wpAny _ B.in1 (ret Value.none) _ _ _
    exact wpAny_pure (hR h' tk (fun b o hb _ e => hm b o hb e) (keep _ _ _ _ st sx hm))
  | succ k ih =>
    intro i s hk hi st sx hR
    have hlt : i < n := by omega
    refine codeAny_builtin PyProof.Rows.F.entry_set_update_loop ?_
    rw [Around.under_plainId PyProof.Rows.F.plain_set_update_loop _]
    show wpAny _ B.in1 (pyNext (.ref I) >>= _) _ _ s
    refine wpAny_bind (W.item i s _ _ hlt st fun v h1 t1 hP st1 hm => ?_)
    have sx1 : Sx i h1 := keep _ _ _ _ st sx hm
    show wpAny _ B.in1 (holding [v] (setAdd S v) >>= _) _ _ _
    refine wpAny_bind (wpAny_holding (add i v _ _ _ hlt hP sx1 fun h2 t2 c hsb sx2 => ?_))
    refine wpAny_pure ⟨plainId_quiet PyProof.Rows.F.plain_set_update_loop _, ih (i + 1) _ (by omega) hlt (W.frame _ _ _ st1 fun b hb o e => ?_) sx2 fun h3 t3 hk3 sx3 => ?_⟩
    · show h2.get? b = some o
      rw [hsb.2 b (fun z : b = S => hSf (by rw [← z]; exact hb))]; exact e
    · refine hR h3 t3 (fun b o hb hS e => hk3 b o hb hS ?_) sx3
      show h2.get? b = some o
      rw [hsb.2 b hS]; exact hm b o hb e
set_option maxRecDepth 100000 in
set_option maxHeartbeats 3200000 in
theorem updateFrom_list {id : String} {a l : Addr} {items : Array Value} {Q : Unit → Shared → Prop} (hh : B.handled = none) (hl : s.heap.IsList l items) (hal : a ≠ l) (has : a < s.heap.objs.size) (Sx : Nat → Heap → Prop) (start : Sx 0 s.heap)
    (keep : ∀ i (h h' : Heap), (∃ o, h.get? s.heap.objs.size = some o ∧ o.cls = .type "list_iterator") → Sx i h → (∀ b o, b ≠ s.heap.objs.size → h.get? b = some o → h'.get? b = some o) → Sx i h')
    (keep0 : ∀ (h' : Heap), (∀ b o, s.heap.get? b = some o → h'.get? b = some o) → Sx 0 h')
    (add : ∀ i v (s' : Shared) (Q : Bool → Shared → Prop) (E' : Value → Shared → Prop), items[i]? = some v → Sx i s'.heap → (∀ h' tk c, Heap.SameBut a s'.heap h' → Sx (i + 1) h' → Q c { s' with heap := h', toks := tk }) → wpAny (model prog w) B.in1 (setAdd a v) Q E' s')
    (fin : ∀ h' tk, Sx items.size h' → (∀ b o, b < s.heap.objs.size → b ≠ a → s.heap.get? b = some o → h'.get? b = some o) → Q () { s with heap := h', toks := tk }) :
    wpAny (model prog w) B (Builtin.Frozenset.updateFrom id a (.ref l)) Q E s := by
  obtain ⟨ol, hol, hcl, nl, hdl⟩ := hl
  obtain ⟨oc, od, odt, os⟩ := ol
  simp only at hcl hdl
  subst hcl; subst hdl
  have sl0 := F.sub_list_set
  have sl1 := F.sub_list_frozenset
  have ne0 : (Value.type "list" == Value.type "dict") = false := by decide
  have hl1 : s.heap.IsList l items := ⟨_, hol, rfl, nl, rfl⟩
  unfold Builtin.Frozenset.updateFrom
  generalize hPI : pyIter = PI
  wp_walk
  subst hPI
  refine wpAny_pyIter_list hl1 ?_
  refine wpAny_bind (wpAny_runValue ?_)
  have hlt : l < s.heap.objs.size := Heap.lt_size hol
  refine set_loop (Walks.list (by simp [hh]) _ l (Nat.ne_of_lt hlt) items) a ?_ Sx ?_ (fun i v s' Q E' _ hv sx hq => add i v s' Q E' hv sx hq) (items.size - 0) 0 _ rfl (Nat.zero_le _) ?_ ?_ ?_
  · simp only [List.mem_cons, List.not_mem_nil, or_false, not_or]
    exact ⟨Nat.ne_of_lt has, hal⟩
  · intro i j h h' st sx hk
    obtain ⟨⟨o, e, c, _⟩, _⟩ := st
    exact keep i h h' ⟨o, e, c⟩ sx fun b o hb e => hk b o (by simpa using hb) e
  · exact ⟨⟨_, Heap.get?_push_size _ rfl, rfl, rfl⟩, hl1.push _⟩
  · exact keep0 _ fun b o e => Heap.get?_push_of_some _ e
  · intro h' tk hk sx
    refine wpAny_pure ?_
    refine fin h' tk sx fun b o hb hba e => hk b o ?_ hba (Heap.get?_push_of_some _ e)
    simp only [List.mem_cons, List.not_mem_nil, or_false]
    exact Nat.ne_of_lt hb
end
end PySem

namespace L3
open PySem PySem.Spec PyProof.Rows L2
def ndist {κ : Type} [DecidableEq κ] : List κ → Nat
  | [] => 0
  | x :: xs => if x ∈ xs then ndist xs else ndist xs + 1
section
variable {X : Cx}
end
end L3

namespace L3
open PySem PySem.Spec PyProof.Rows L2
section
variable {X : Cx}
end
theorem bt_set : bootBuiltins "set" = some (.type "set") := by decide +kernel
end L3

/-! a set of numbers: what it holds, and that its table is walked in its own order. -/
namespace ST
open PySem PySem.SetTable
theorem laid_good2 {mask k : Nat} (h3 : 3 ≤ k) (hm : mask + 1 = 2 ^ k) {es : Array (Int × Value)} (hl : es.size ≤ mask) (f mv : Nat) (ld pl : Bool) :
    ∃ t order, laid mask f mv ld pl (es.map (·.1)) = some (t, order) ∧ t.mask = mask ∧ t.led = ld ∧ t.plain = pl ∧ order.toList.Perm (List.range es.size) ∧ List.Perm (order.filterMap (es[·]?)).toList es.toList ∧ Good t ((order.filterMap (es[·]?)).toList.map (·.1)) := by
  obtain ⟨o, a, L⟩ := layClean_some hm (hs := es.map (·.1)) (by rw [Array.size_map]; omega)
  rw [Array.size_map] at L
  have hord : ((liveOf mask o).map (·.2)).Nodup := by
    rw [List.nodup_iff_pairwise_ne, List.pairwise_map]
    have hp : (liveOf mask o).Pairwise fun x y => x.1 < y.1 := List.pairwise_map.mp (live_ris mask o)
    refine List.Pairwise.imp_of_mem (fun {x y} hx hy hlt e => ?_) hp
    have e1 := (mem_live L.sz (j := x.1) (i := x.2)).mp hx
    have e2 := (mem_live L.sz (j := y.1) (i := y.2)).mp hy
    rw [← e] at e2
    have := L.inj _ _ _ e1 e2
    omega
  have hperm : List.Perm ((liveOf mask o).map (·.2)) (List.range es.size) := by
    refine (List.perm_ext_iff_of_nodup hord List.nodup_range).mpr fun i => ?_
    rw [List.mem_map, List.mem_range]
    constructor
    · rintro ⟨x, hx, rfl⟩
      exact L.lt _ _ ((mem_live L.sz (j := x.1) (i := x.2)).mp hx)
    · intro hi
      obtain ⟨j, e⟩ := L.all i hi
      exact ⟨(j, i), (mem_live L.sz).mpr e, rfl⟩
  refine ⟨{ mask, place := ((liveOf mask o).map (·.1)).toArray, dummies := #[], finger := f, led := ld, moves := mv, plain := pl }, ((liveOf mask o).map (·.2)).toArray, ?_, rfl, rfl, rfl, by simpa using hperm, ?_, ?_⟩
  · unfold laid
    rw [a]
    rfl
  · have e : ((((liveOf mask o).map (·.2)).toArray).filterMap (es[·]?)).toList = ((liveOf mask o).map (·.2)).filterMap (es[·]?) := by simp
    rw [e]
    refine (hperm.filterMap _).trans ?_
    have := range_picks es.toList
    simp only [Array.length_toList, Array.getElem?_toList] at this
    rw [this]
  · have picks : ∀ l : List (Nat × Nat), (∀ x ∈ l, x.2 < es.size) → (l.map (·.2)).filterMap (es[·]?) = l.map fun x => (es[x.2]?).getD default := by
      intro l
      induction l with
      | nil => intro _; rfl
      | cons x r ih =>
        intro h
        have hx := h x List.mem_cons_self
        rw [List.map_cons, List.filterMap_cons, Array.getElem?_eq_getElem hx, List.map_cons, ih fun y hy => h y (List.mem_cons_of_mem _ hy), Array.getElem?_eq_getElem hx]
        rfl
    have hlt : ∀ x ∈ liveOf mask o, x.2 < es.size := fun x hx => L.lt _ _ ((mem_live L.sz (j := x.1) (i := x.2)).mp hx)
    have e : ((((liveOf mask o).map (·.2)).toArray).filterMap (es[·]?)).toList = (liveOf mask o).map fun x => (es[x.2]?).getD default := by
      rw [← picks _ hlt]; simp
    rw [e]
    have hlen : (liveOf mask o).length = es.size := by
      have := hperm.length_eq
      rw [List.length_map, List.length_range] at this
      exact this
    have hocc : ∀ j, j ∈ taken o → j ∈ (liveOf mask o).map (·.1) := fun j hj => by
      obtain ⟨i, e⟩ := mem_taken.mp hj
      exact List.mem_map.mpr ⟨(j, i), (mem_live L.sz).mpr e, rfl⟩
    refine ⟨⟨k, h3, hm⟩, rfl, by simpa using live_ris mask o, fun j hj => ?_, ?_, ?_, fun x hx => ?_⟩
    · have hj' : j ∈ (liveOf mask o).map (·.1) := by simpa using hj
      obtain ⟨x, hx, rfl⟩ := List.mem_map.mp hj'
      obtain ⟨h1, _⟩ := Array.getElem?_eq_some_iff.mp ((mem_live L.sz (j := x.1) (i := x.2)).mp hx)
      rw [L.sz] at h1
      show x.1 ≤ mask
      omega
    · simp
    · show (((liveOf mask o).map (·.1)).toArray).size ≤ mask
      rw [List.size_toArray, List.length_map, hlen]; exact hl
    · have hz : (((liveOf mask o).map (·.1)).toArray).toList.zip (((liveOf mask o).map fun x => (es[x.2]?).getD default).map (·.1)) = (liveOf mask o).map fun x => (x.1, ((es[x.2]?).getD default).1) := by
        simp [List.zip_map', List.map_map]
      have hx' : x ∈ (liveOf mask o).map fun x => (x.1, ((es[x.2]?).getD default).1) := by rw [← hz]; exact hx
      obtain ⟨y, hy, rfl⟩ := List.mem_map.mp hx'
      have e1 := (mem_live L.sz (j := y.1) (i := y.2)).mp hy
      have hi := hlt y hy
      have e2 : (es.map (·.1)).toList[y.2]? = some ((es[y.2]?).getD default).1 := by
        rw [Array.getElem?_eq_getElem hi]
        simp [hi]
      obtain ⟨q, q1, q2⟩ := L.reach y.1 y.2 _ e1 e2
      refine ⟨q, q1, fun m hm' => ?_⟩
      have := hocc _ (q2 m hm')
      simpa using this

theorem free_slot {t : SetTable} {hs : List Int} (g : Good t hs) (h : Int) {N : Nat} (h1 : N < 10 * (t.mask + 14)) (hN : pos t.mask h N ∉ t.place.toList) (hO : ∀ m, m < N → pos t.mask h m ∈ t.place.toList) : t.freeSlot h = some (pos t.mask h N, false) := by
  unfold SetTable.freeSlot SetTable.probe
  rcases probe_go g h hN hO (fun _ => h + 1) (10 * SetTable.turns t.mask) 0 (Nat.zero_le _) (by unfold SetTable.turns; omega) with ⟨e, _⟩ | ⟨m, i, _, _, _, z, _⟩
  · rw [probeStart_eq]
    have : itr t.mask 0 (st t.mask h) = st t.mask h := rfl
    rw [this] at e
    rw [e]; rfl
  · exact absurd z (by omega)
end ST
namespace PySem
def ivv (e : Int × Value) : Int := match e.2 with
  | .int n _ => n
  | _ => 0
def ElI (e : Int × Value) : Prop := ∃ n u, e = (hashInt n, Value.int n u)
structure IntG (h : Heap) (a : Addr) (led : Bool) (ns : List Int) (es : Array (Int × Value)) (ep : Nat) (t : SetTable) : Prop where
  get : ∃ o, h.get? a = some o ∧ o.ExactSet ∧ o.data = .set es ep t
  el : ∀ e ∈ es.toList, ElI e
  pm : (es.toList.map ivv).Perm ns
  good : ST.Good t (es.toList.map (·.1))
  led : t.led = led
  pl : t.plain = true
  full : t.place.size * 5 < t.mask * 3
section
variable {prog : Program} {w : World} {A : Around} {E : Value → Shared → Prop} {s : Shared}
theorem elems_int {l : List (Int × Value)} (h : ∀ e ∈ l, ElI e) : ElemsOf (intKind prog w) l := fun e he => by
  obtain ⟨n, u, rfl⟩ := h e he
  exact ⟨⟨n, by show Value.isInt n (.int n u) = true; simp [Value.isInt], rfl⟩, rfl⟩
open ST in
theorem relay_int {t : SetTable} {es : Array (Int × Value)} (h1 : 1 ≤ es.size) (hn : es.size ≤ 2000) : ∃ es' t', relayAll t es (SetTable.grown es.size) = (es', t', false) ∧ es'.toList.Perm es.toList ∧ Good t' (es'.toList.map (·.1)) ∧ t'.led = t.led ∧ t'.plain = t.plain ∧ t'.place.size * 5 < t'.mask * 3 := by
  have hgr : SetTable.grown es.size = 4 * es.size := by unfold SetTable.grown; rw [if_neg (by omega)]; omega
  rw [hgr]
  obtain ⟨k, h3, e, lt, le⟩ := sizeAbove_spec (w := 4 * es.size) (Nat.lt_of_lt_of_le (show 4 * es.size < 2 ^ 14 by omega) (by decide))
  have hpos : 0 < 2 ^ k := Nat.two_pow_pos k
  have hm : (2 ^ k - 1) + 1 = 2 ^ k := by omega
  obtain ⟨t', order, el, em, e1, e2, cov, perm, good⟩ := laid_good2 h3 hm (es := es) (by omega) t.finger (t.movedTo (2 ^ k - 1)) t.led t.plain
  have er : t.relaid (es.map (·.1)) (4 * es.size) = some (t', order) := by
    unfold SetTable.relaid
    rw [e]; exact el
  have hsz : (order.filterMap (es[·]?)).size = es.size := by
    rw [← Array.length_toList, perm.length_eq, Array.length_toList]
  have hc : coversAll order es.size = true := by unfold coversAll; exact List.isPerm_iff.mpr cov
  have hf : t'.fits (order.filterMap (es[·]?)).size = true := by have := good.fits; rw [List.length_map, Array.length_toList] at this; exact this
  refine ⟨order.filterMap (es[·]?), t', ?_, perm, good, e1, e2, ?_⟩
  · unfold relayAll
    rw [er]
    dsimp only
    rw [hc, hf]; rfl
  · have hp : t'.place.size = es.size := by have := good.len; rw [List.length_map, Array.length_toList, hsz] at this; exact this
    rw [hp, em]; omega
open ST in
theorem wpAny_setAdd_int {a : Addr} {led : Bool} {ns : List Int} {es : Array (Int × Value)} {ep : Nat} {t : SetTable} {x : Int} {u : Tok} {Q : Bool → Shared → Prop} (I : IntG s.heap a led ns es ep t) (hl : ns.length < 1000)
    (h : ∀ b h' es' ep' t', Heap.SameBut a s.heap h' → IntG h' a led (if x ∈ ns then ns else ns ++ [x]) es' ep' t' → Q b { s with heap := h' }) :
    wpAny (model prog w) A (setAddHashed a (.int x u) (hashInt x)) Q E s := by
  obtain ⟨o, ho, hex, hd⟩ := I.get
  have g := I.good
  have hf : t.fits es.size = true := by have := g.fits; simpa using this
  have hps : t.place.size = es.size := by have := g.len; simpa using this
  have hen : es.size = ns.length := by have := I.pm.length_eq; simpa using this
  have hel := elems_int (prog := prog) (w := w) I.el
  have hkey : (intKind prog w).is x (.int x u) = true := by show Value.isInt x (.int x u) = true; simp [Value.isInt]
  have mem : x ∈ ns ↔ ∃ e ∈ es.toList, (intKind prog w).is x e.2 = true := by
    rw [← I.pm.mem_iff, List.mem_map]
    constructor
    · rintro ⟨e, he, z⟩
      obtain ⟨n, v, rfl⟩ := I.el e he
      have z : n = x := z
      subst z
      exact ⟨_, he, by show Value.isInt n (.int n v) = true; simp [Value.isInt]⟩
    · rintro ⟨e, he, z⟩
      obtain ⟨n, v, rfl⟩ := I.el e he
      have z : Value.isInt x (.int n v) = true := z
      exact ⟨_, he, by show n = x; simp [Value.isInt] at z; omega⟩
  unfold setAddHashed
  refine wpAny_holding ?_
  unfold setAddHashedIn
  refine wpAny_bind (wpAny_setState_of ho hd hf ?_)
  dsimp only
  rw [byScan_of (knd := intKind prog w) (x := .int x u) rfl (by unfold scanBound; omega) hel]
  simp only [if_true]
  refine wpAny_bind ?_
  unfold setAddByScan
  refine wpAny_bind (wpAny_rule ?_)
  refine wpAny_bind (wpAny_setScan_of (knd := intKind prog w) (k := x) hkey ho hd hf hel ?_)
  cases hr : List.findIdx? (fun e => (intKind prog w).is x e.2) es.toList with
  | some j =>
    obtain ⟨hj, hpj, _⟩ := List.findIdx?_eq_some_iff_getElem.mp hr
    have hx : x ∈ ns := mem.mpr ⟨_, List.getElem_mem hj, hpj⟩
    rw [if_pos hx] at h
    dsimp only
    refine wpAny_pure ?_
    dsimp only
    exact wpAny_pure (h _ s.heap es ep t (Heap.SameBut.refl a s.heap) I)
  | none =>
    have hx : x ∉ ns := fun z => by
      obtain ⟨e, he, q⟩ := mem.mp z
      have := List.findIdx?_eq_none_iff.mp hr e he
      rw [q] at this; cases this
    rw [if_neg hx] at h
    dsimp only
    obtain ⟨N, hN1, hN2, hN3⟩ := g.free (hashInt x)
    have hrm : t.place.size < t.mask := by have := I.full; omega
    have g1 : Good (t.put (pos t.mask (hashInt x) N)).1 _ := g.put hN2 hN3 hrm t.plain
    have hES : ∃ ES, ES = SetTable.insertAt es (t.put (pos t.mask (hashInt x) N)).2 (hashInt x, Value.int x u) := ⟨_, rfl⟩
    obtain ⟨ES, hES⟩ := hES
    have hESl : ES.toList = insL es.toList (SetTable.below t.place (pos t.mask (hashInt x) N)) (hashInt x, Value.int x u) := by
      rw [hES]; exact toList_insertAt _ _ _
    have hESm : ES.toList.map (·.1) = insL (es.toList.map (·.1)) (SetTable.below t.place (pos t.mask (hashInt x) N)) (hashInt x) := by
      rw [hESl]; unfold insL; simp [List.map_take, List.map_drop]
    rw [← hESm] at g1
    have hESp : ES.toList.Perm ((hashInt x, Value.int x u) :: es.toList) := by rw [hESl]; exact insL_perm _ _ _
    have hESz : ES.size = ns.length + 1 := by
      have := hESp.length_eq
      simp at this; omega
    obtain ⟨T, hT⟩ : ∃ T, T = (t.put (pos t.mask (hashInt x) N)).1 := ⟨_, rfl⟩
    rw [← hT] at g1
    have hTf : T.fits ES.size = true := by have := g1.fits; simpa using this
    have hTl : T.led = led := by rw [hT]; exact I.led
    have hTpl : T.plain = true := by rw [hT]; exact I.pl
    have hTm : T.mask = t.mask := by rw [hT]; rfl
    have hTp : T.place.size = ns.length + 1 := by have := g1.len; simp at this; omega
    have hTd : T.dummies.size = 0 := by rw [g1.dum]; rfl
    have hlay : layNew t es (hashInt x) (.int x u) = (ES, T, false, false) := by
      unfold layNew
      rw [free_slot g _ hN1 hN2 hN3]
      dsimp only
      rw [← hES, ← hT]
      unfold SetTable.orStandIn
      rw [hTf]; rfl
    rw [hlay]
    dsimp only
    refine wpAny_bind (wpAny_pure ?_)
    rw [if_pos hTpl]
    refine wpAny_bind (wpAny_pure ?_)
    simp only [if_true]
    have elems : ∀ L : List (Int × Value), L.Perm ((hashInt x, Value.int x u) :: es.toList) → (∀ e ∈ L, ElI e) ∧ (L.map ivv).Perm (ns ++ [x]) := fun L hp => by
      refine ⟨fun e he => ?_, ?_⟩
      · rcases List.mem_cons.mp (hp.mem_iff.mp he) with rfl | he
        · exact ⟨x, u, rfl⟩
        · exact I.el e he
      · refine (hp.map ivv).trans ?_
        show (x :: es.toList.map ivv).Perm _
        exact (I.pm.cons x).trans (List.perm_append_singleton x ns).symm
    obtain ⟨ho1, hsb1, hex1⟩ := TupSet_store ho hex hd ES T
    refine wpAny_bind (wpAny_storeSet_of ho hd ?_ (by rw [hESz, sizeLine_eq]; omega))
    by_cases hfl : T.tooFull = true
    · rw [hfl]
      simp only [Bool.not_false, Bool.and_self, if_true]
      obtain ⟨es', t', e, hp, hg, hl', hpl', hfu⟩ := relay_int (t := T) (es := ES) (by omega) (by omega)
      rw [e]
      dsimp only
      refine wpAny_bind (wpAny_pure ?_)
      have hz' : es'.size = ns.length + 1 := by have := hp.length_eq; simp at this; omega
      refine wpAny_bind (wpAny_storeSet_of ho1 rfl ?_ (by rw [hz', sizeLine_eq]; omega))
      obtain ⟨ho2, hsb2, hex2⟩ := TupSet_store ho1 hex1 rfl es' t'
      obtain ⟨x1, x2⟩ := elems _ (hp.trans hESp)
      refine wpAny_pure ?_
      dsimp only
      exact wpAny_pure (h _ _ es' _ t' (hsb1.trans hsb2) ⟨⟨_, ho2, hex2, rfl⟩, x1, x2, hg, hl'.trans hTl, hpl'.trans hTpl, hfu⟩)
    · rw [Bool.not_eq_true] at hfl
      rw [hfl]
      simp only [Bool.and_false, Bool.false_eq_true, if_false]
      obtain ⟨x1, x2⟩ := elems _ hESp
      have hnf : T.place.size * 5 < T.mask * 3 := by
        unfold SetTable.tooFull SetTable.fill at hfl
        rw [hTd] at hfl
        simp at hfl
        omega
      refine wpAny_pure ?_
      dsimp only
      exact wpAny_pure (h _ _ ES _ T hsb1 ⟨⟨_, ho1, hex1, rfl⟩, x1, x2, g1, hTl, hTpl, hnf⟩)
end
end PySem

/-! Marks, steps, scribes in the heap; what stays while lists change. -/
namespace L3
open PySem PySem.Spec PyProof.Rows L2
abbrev Mk := Int × Str
abbrev Stp := Int × Str × Str × Int
def Grow (H H' : Hp) : Prop := ∀ b o, H b = some o → (∀ xs, o ≠ .lst xs) → H' b = some o
theorem Grow.trans {H H' H'' : Hp} (g : Grow H H') (g' : Grow H' H'') : Grow H H'' := fun b o h n => g' b o (g b o h n) n
theorem Same.grow {H H' : Hp} (g : Same H H') : Grow H H' := fun b o h _ => g b o h
theorem grow_upd {H : Hp} {p : Addr} {xs : List V} (h : H p = some (.lst xs)) (o : HO) : Grow H (upd H p o) := fun b u q n => by
  rw [upd_ne]
  · exact q
  · rintro rfl; rw [h] at q; cases q; exact n xs rfl
theorem grow_new {H : Hp} {p : Addr} (h : H p = none) (o : HO) : Grow H (upd H p o) := Same.grow (same_new h o)
theorem Grow.seqT {K : PySem.W.Frag} {H H' : Hp} {a : Addr} {xs : List V} (e : Grow H H') (h : SqT K H a xs) : SqT K H' a xs := by
  rcases h with (h | ⟨o, h⟩) | h
  · exact .inl (.inl (e _ _ h (by intro _ q; cases q)))
  · exact .inl (.inr ⟨o, e _ _ h (by intro _ q; cases q)⟩)
  · exact .inr h
def MkV (K : PySem.W.Frag) (H : Hp) (m : Mk) (v : V) : Prop := ∃ b, v = .ref b ∧ SqT K H b [.int m.1, .str m.2]
def StV (K : PySem.W.Frag) (H : Hp) (t : Stp) (v : V) : Prop := ∃ b, v = .ref b ∧ SqT K H b [.int t.1, .str t.2.1, .str t.2.2.1, .int t.2.2.2]
theorem MkV.mono {K : PySem.W.Frag} {H H' : Hp} {m : Mk} {v : V} (g : Grow H H') : MkV K H m v → MkV K H' m v := fun ⟨b, e, h⟩ => ⟨b, e, g.seqT h⟩
theorem StV.mono {K : PySem.W.Frag} {H H' : Hp} {m : Stp} {v : V} (g : Grow H H') : StV K H m v → StV K H' m v := fun ⟨b, e, h⟩ => ⟨b, e, g.seqT h⟩
theorem paired_mono {α β : Type} {F G : α → β → Prop} (h : ∀ a b, F a b → G a b) : ∀ {xs : List α} {ys : List β}, Paired F xs ys → Paired G xs ys
  | _, _, .nil => .nil
  | _, _, .cons p q => .cons (h _ _ p) (paired_mono h q)
theorem paired_append {α β : Type} {F : α → β → Prop} : ∀ {xs xs' : List α} {ys ys' : List β}, Paired F xs ys → Paired F xs' ys' → Paired F (xs ++ xs') (ys ++ ys')
  | _, _, _, _, .nil, q => q
  | _, _, _, _, .cons p r, q => .cons p (paired_append r q)
theorem paired_get {α β : Type} {F : α → β → Prop} : ∀ {xs : List α} {ys : List β} {i : Nat} {y : β}, Paired F xs ys → ys[i]? = some y → ∃ x, xs[i]? = some x ∧ F x y
  | _, _, _, _, .nil, e => by simp at e
  | _, _, 0, _, .cons p _, e => by simp at e; subst e; exact ⟨_, rfl, p⟩
  | _, _, i + 1, y, .cons _ q, e => by
    obtain ⟨x, h1, h2⟩ := paired_get (i := i) (y := y) q (by simpa using e)
    exact ⟨x, by simpa using h1, h2⟩
theorem paired_take {α β : Type} {F : α → β → Prop} : ∀ (n : Nat) {xs : List α} {ys : List β}, Paired F xs ys → Paired F (xs.take n) (ys.take n)
  | 0, _, _, _ => .nil
  | _ + 1, _, _, .nil => .nil
  | n + 1, _, _, .cons p q => .cons p (paired_take n q)
theorem paired_drop {α β : Type} {F : α → β → Prop} : ∀ (n : Nat) {xs : List α} {ys : List β}, Paired F xs ys → Paired F (xs.drop n) (ys.drop n)
  | 0, _, _, q => q
  | _ + 1, _, _, .nil => .nil
  | n + 1, _, _, .cons _ q => paired_drop n q
structure Scr where
  signs : Str
  rooms : Int
  begins : List Mk
  steps : List Stp
  ends : List Mk
def ScV (K : PySem.W.Frag) (H : Hp) (s : Scr) (v : V) (pb ps pe : Addr) : Prop := ∃ a xb xs xe, v = .ref a ∧ SqT K H a [.str s.signs, .int s.rooms, .ref pb, .ref ps, .ref pe] ∧ SqL K H pb xb ∧ SqL K H ps xs ∧ SqL K H pe xe ∧
  Paired (MkV K H) s.begins xb ∧ Paired (StV K H) s.steps xs ∧ Paired (MkV K H) s.ends xe
theorem ScV.mono {K : PySem.W.Frag} {H H' : Hp} {s : Scr} {v : V} {pb ps pe : Addr} (g : Same H H') : ScV K H s v pb ps pe → ScV K H' s v pb ps pe
  | ⟨a, xb, xs, xe, e, h1, h2, h3, h4, h5, h6, h7⟩ => ⟨a, xb, xs, xe, e, Same.seqT g h1, g.seq h2, g.seq h3, g.seq h4, paired_mono (fun _ _ => MkV.mono (Same.grow g)) h5, paired_mono (fun _ _ => StV.mono (Same.grow g)) h6, paired_mono (fun _ _ => MkV.mono (Same.grow g)) h7⟩
/-! as deep data -/
def dMk (m : Mk) : D := .tup [.int m.1, .str m.2]
def dSt (t : Stp) : D := .tup [.int t.1, .str t.2.1, .str t.2.2.1, .int t.2.2.2]
def dScr (s : Scr) : D := .tup [.str s.signs, .int s.rooms, .lst (s.begins.map dMk), .lst (s.steps.map dSt), .lst (s.ends.map dMk)]
theorem rep_int {K : PySem.W.Frag} {H : Hp} (i : Int) : Rep K H (.int i) (.int i) := by unfold Rep; rfl
theorem rep_str {K : PySem.W.Frag} {H : Hp} (x : Str) : Rep K H (.str x) (.str x) := by unfold Rep; rfl
theorem rep_tup {K : PySem.W.Frag} {H : Hp} {a : Addr} {xs : List V} {ds : List D} (h : SqT K H a xs) (r : Reps K H ds xs) : Rep K H (.tup ds) (.ref a) := by unfold Rep; exact ⟨a, xs, rfl, h, r⟩
theorem rep_lst {K : PySem.W.Frag} {H : Hp} {a : Addr} {xs : List V} {ds : List D} (h : SqL K H a xs) (r : Reps K H ds xs) : Rep K H (.lst ds) (.ref a) := by unfold Rep; exact ⟨a, xs, rfl, h, r⟩
theorem MkV.rep {K : PySem.W.Frag} {H : Hp} {m : Mk} {v : V} : MkV K H m v → Rep K H (dMk m) v
  | ⟨_, e, h⟩ => by subst e; exact rep_tup h (.cons (rep_int _) (.cons (rep_str _) .nil))
theorem StV.rep {K : PySem.W.Frag} {H : Hp} {m : Stp} {v : V} : StV K H m v → Rep K H (dSt m) v
  | ⟨_, e, h⟩ => by subst e; exact rep_tup h (.cons (rep_int _) (.cons (rep_str _) (.cons (rep_str _) (.cons (rep_int _) .nil))))
theorem reps_of {K : PySem.W.Frag} {H : Hp} {α : Type} {F : α → V → Prop} {f : α → D} (h : ∀ a v, F a v → Rep K H (f a) v) : ∀ {xs : List α} {vs : List V}, Paired F xs vs → Reps K H (xs.map f) vs
  | _, _, .nil => .nil
  | _, _, .cons p q => .cons (h _ _ p) (reps_of h q)
theorem ScV.rep {K : PySem.W.Frag} {H : Hp} {s : Scr} {v : V} {pb ps pe : Addr} : ScV K H s v pb ps pe → Rep K H (dScr s) v
  | ⟨a, xb, xs, xe, e, h1, h2, h3, h4, h5, h6, h7⟩ => by
    subst e
    exact rep_tup h1 (.cons (rep_str _) (.cons (rep_int _) (.cons (rep_lst h2 (reps_of (f := dMk) (F := MkV K H) (fun _ _ h => MkV.rep h) h5)) (.cons (rep_lst h3 (reps_of (f := dSt) (F := StV K H) (fun _ _ h => StV.rep h) h6)) (.cons (rep_lst h4 (reps_of (f := dMk) (F := MkV K H) (fun _ _ h => MkV.rep h) h7)) .nil)))))
theorem deeps_map {α : Type} (f : α → D) (n : Nat) (h : ∀ a, deep (f a) ≤ n) : ∀ xs : List α, deeps (xs.map f) ≤ n
  | [] => by rw [List.map_nil, deeps]; exact Nat.zero_le _
  | x :: xs => by
    have h1 := h x
    have h2 := deeps_map f n h xs
    rw [List.map_cons, deeps]; omega
theorem deep_dMk (m : Mk) : deep (dMk m) ≤ 1 := by unfold dMk; simp [deep, deeps]
theorem deep_dSt (m : Stp) : deep (dSt m) ≤ 1 := by unfold dSt; simp [deep, deeps]
theorem deep_dScr (s : Scr) : deep (dScr s) ≤ 3 := by
  have h1 := deeps_map dMk 1 deep_dMk s.begins
  have h2 := deeps_map dSt 1 deep_dSt s.steps
  have h3 := deeps_map dMk 1 deep_dMk s.ends
  unfold dScr
  simp only [deep, deeps]
  omega
theorem eqD_dMk (a b : Mk) : eqD (dMk a) (dMk b) = decide (a = b) := by
  obtain ⟨i, x⟩ := a; obtain ⟨j, y⟩ := b
  unfold dMk
  simp only [eqD, eqDs, Bool.and_true]
  by_cases h1 : i = j <;> by_cases h2 : x = y <;> simp [h1, h2]
theorem eqD_dSt (a b : Stp) : eqD (dSt a) (dSt b) = decide (a = b) := by
  obtain ⟨i, x, z, k⟩ := a; obtain ⟨j, y, u, l⟩ := b
  unfold dSt
  simp only [eqD, eqDs, Bool.and_true]
  by_cases h1 : i = j <;> by_cases h2 : x = y <;> by_cases h3 : z = u <;> by_cases h4 : k = l <;> simp [h1, h2, h3, h4]
theorem any_mem {α : Type} [DecidableEq α] (f : α → D) (h : ∀ a b, eqD (f a) (f b) = decide (a = b)) (x : α) : ∀ xs : List α, ((xs.map f).any fun e => eqD e (f x)) = decide (x ∈ xs)
  | [] => by simp
  | y :: ys => by
    rw [List.map_cons, List.any_cons, any_mem f h x ys, h]
    by_cases c : y = x
    · simp [c]
    · simp [c, show ¬ x = y from fun q => c q.symm]
/-! ### the list's insert; a number of the module -/
section
variable {X : Cx}
def insAt (n : Nat) (i : Int) : Nat := if i < 0 then (i + (n : Int)).toNat else min i.toNat n
def rInsert : V → List V → Hp → VK → Prop := fun x vs H Q => ∃ l xs i y, x = .ref l ∧ vs = [.int i, y] ∧ H l = some (.lst xs) ∧ (-(2 ^ 63) ≤ i ∧ i < 2 ^ 63) ∧ xs.length < sizeLine ∧ Q .non (upd H l (.lst (xs.take (insAt xs.length i) ++ y :: xs.drop (insAt xs.length i))))
theorem mt_insert : MtM X "list.insert" rInsert := by
  intro pins s σ H x vs v us Q I rx rv h
  obtain ⟨l, xs, i, y, rfl, rfl, hH, hi, hz, q⟩ := h
  cases rx
  obtain ⟨u, w', rfl, ⟨t, rfl⟩, ry⟩ := vals2 rv
  obtain ⟨z, its, n, r, hl, e⟩ := I.lstM hH
  have hf : ¬ (!Builtin.List.listFitsIndex i) = true := by
    unfold Builtin.List.listFitsIndex
    simp only [Bool.not_eq_true', Bool.and_eq_false_iff, decide_eq_false_iff_not, not_or, Decidable.not_not]
    exact hi
  refine call_meets F.slot_list_insert ⟨_, e, rfl⟩ F.entry_list_insert (F.args_list_insert_3 _ _ _) (AutoSeq1.list_insert_list_int_val_1 l its.toArray n i t w' hf (by rw [List.size_toArray]; omega)) ⟨e, ?_⟩
  have hil : insAt xs.length i = insAt its.length i := by rw [hl]
  refine ⟨.non, _, I.lset (its' := its.take (insAt its.length i) ++ w' :: its.drop (insAt its.length i)) hH e ?_ ((r.take _).append (.cons ry (r.drop _))) ?_, rfl, by rw [← hil]; exact q⟩
  · rw [List.size_toArray]
    show (its.toArray.extract 0 (insAt its.length i)).push w' ++ its.toArray.extract (insAt its.length i) = _
    apply Array.ext'
    simp [Array.toList_extract, List.take_of_length_le]
  · rw [List.length_append, List.length_cons, List.length_take, List.length_drop]; omega
theorem pe_globI {x : Str} {i : Int} {pos : Pos} (hg : Gl X x) (hm : ∃ t, X.mg x = some (.int i t)) (hd : (x == ("__debug__" : Str)) = false := by decide) : PE X (.Name x pos) (tC (.int i)) := by
  obtain ⟨t, hm⟩ := hm
  exact pe_glob hg hm ⟨t, rfl⟩ hd
end
/-! in a block: the fragment named outright -/
theorem kIx {X : Cx} {K : PySem.W.Frag} (r : PySem.W.Frag → R2) (h : IxR X (r X.K)) (e : X.K = K := by rfl) : IxR X (r K) := e ▸ h
theorem kSl {X : Cx} {K : PySem.W.Frag} (r : PySem.W.Frag → V → Option Int → Option Int → Hp → VK → Prop) (h : SlR X (r X.K)) (e : X.K = K := by rfl) : SlR X (r K) := e ▸ h
theorem kOp {X : Cx} {K : PySem.W.Frag} {f : Value → Value → Sem Value} (r : PySem.W.Frag → R2) (h : OpR X f (r X.K)) (e : X.K = K := by rfl) : OpR X f (r K) := e ▸ h
def rLenS (K : PySem.W.Frag) : List V → Hp → VK → Prop := fun xs H Q => ∃ p ys, xs = [.ref p] ∧ (SqL K H p ys ∨ SqT K H p ys) ∧ Q (.int ys.length) H
theorem kLen {X : Cx} {K : PySem.W.Frag} (e : X.K = K := by rfl) : CallR X (.builtin "len") (rLenS K) := e ▸ call_len_seq
end L3

/-! Exceptions of own classes: raised, passing frames. -/
namespace L3
open PySem PySem.Spec PyProof.Rows L2
theorem ObjOk.there {P : Program} {w : World} {H : Hp} {h : Heap} : ∀ {a : Addr} {o : HO}, ObjOk P w H h a o → ∃ ob, h.get? a = some ob
  | _, .lst _, x => let ⟨_, _, _, _, e⟩ := x; ⟨_, e⟩
  | _, .tup _, x => let ⟨_, _, _, o, e, _⟩ := x; ⟨o, e⟩
  | _, .dK _, x => let ⟨_, _, _, _, o, _, _, e, _⟩ := x; ⟨o, e⟩
  | _, .dT _, x => let ⟨_, _, _, _, o, _, _, e, _⟩ := x; ⟨o, e⟩
  | _, .set _ _, x => let ⟨o, _, _, _, e, _⟩ := x; ⟨o, e⟩
  | _, .ins _ _ _, x => let ⟨_, _, _, e, _⟩ := x; ⟨_, e⟩
  | _, .own _, x => x
  | _, .xd _, x => let ⟨_, ⟨o, _, _, e, _⟩, _⟩ := x; ⟨o, e⟩
  | _, .met _ _, x => ⟨_, x⟩
  | _, .rng _ _, x => let ⟨_, _, _, e⟩ := x; ⟨_, e⟩
  | _, .frz o _, x => ⟨o, x.1⟩
  | _, .tbl _, x => ⟨_, x⟩
  | _, .ext _, x => x.2.1
structure Fly (P : Program) (w : World) (st : List Env) (H : Hp) (s : Shared) (x C : Addr) (H' : Hp) (s' : Shared) (B : Heap) : Prop where
  os : s'.os = s.os
  bare : AllBare s'.gens
  un : Un (frs st) [] H H' s.heap s'.heap
  hok : HOk P w H' s'.heap
  fl : ∃ t, Heap.FlyingW B st x (.ref C) (.ref t) s'.heap
  new : s.heap.get? x = none
  xf : H' x = none
  tr : ∀ b o, H' b ≠ none → s'.heap.get? b = some o → B.get? b = some o
  ol : ∀ b o, s.heap.get? b = some o → H b = none → b ∉ frs st → B.get? b = some o
  th : ∀ b o, s.heap.get? b = some o → b ∉ frs st → ∃ o', B.get? b = some o'
  ff : ∀ b ∈ frs st, H' b = none
def CX1 (P : Program) (w : World) : CXT := fun st H s E e s' => ∃ x C H' B, e = .ref x ∧ Fly P w st H s x C H' s' B ∧ E (.ref C) none H'
section
variable {P : Program} {w : World} {st : List Env} {H H' : Hp} {s s' : Shared} {x C : Addr} {B : Heap}
theorem Fly.turn (F : Fly P w st H s x C H' s' B) {h2 : Heap} (k : B.StaysIn h2) (u : s'.heap.UpToSlots h2) : Un (frs st) [] H H' s.heap h2 ∧ HOk P w H' h2 := by
  have slot : ∀ b ∈ frs st, ∀ o, s'.heap.get? b = some o → ∃ sl, h2.get? b = some { o with slots := sl } := fun b hb o q => by
    obtain ⟨t, fl⟩ := F.fl
    obtain ⟨_, o', e, d⟩ := fl.2.2.1.mem hb
    rw [q] at e; cases e
    exact u b o q d
  refine ⟨⟨fun b o q n hb _ => k b o (F.ol b o q n hb), fun b o q n hb hx => ?_, F.un.free, fun b o q hx => ?_, F.un.tups, F.un.frzs, F.un.tbls⟩, fun a o e => ?_⟩
  · obtain ⟨sl, e⟩ := F.un.slot b o q n hb hx
    obtain ⟨sl', e'⟩ := slot b hb _ e
    exact ⟨sl', e'⟩
  · by_cases hb : b ∈ frs st
    · obtain ⟨o', e⟩ := F.un.there b o q hx
      obtain ⟨sl, e'⟩ := slot b hb _ e
      exact ⟨_, e'⟩
    · obtain ⟨o', e⟩ := F.th b o q hb
      exact ⟨o', k b o' e⟩
  · refine (F.hok a o e).stay (fun b v hb q => ?_) (fun _ q => q) fun _ _ q => q
    refine k b v (F.tr b v ?_ q)
    rcases hb with rfl | hb
    · rw [e]; simp
    · rw [hb]; simp
end
section
variable {X : Cx} {pins : List (Addr × Obj)} {σ : L2.St} {H : Hp} {s : Shared}
theorem raise_fly {M : Model} {h2 : Heap} {x C : Addr} {vs : List Value} {Q : Unit → Shared → Prop} {E : Value → Shared → Prop} (I : Inv X pins σ H s) (hst : X.stack = X.env :: X.outer) (hfm : X.env.frame = some X.env.locals) (hex : X.ex = []) (hx : Heap.MadeExcOf s.heap h2 x (.ref C) vs)
    (q : ∀ h' B, Fly X.prog X.w X.outer X.H₀ X.s₀ x C H { s with heap := h' } B → Q () { s with heap := h' }) : wpAny M X.A (leaving X.env (.ref x)) Q E { s with heap := h2 } := by
  have hfr : X.A.frames = some (X.env :: X.outer) := by rw [← hst]; exact I.ok.frames
  have hstk := I.stack
  have inB : ∀ b o, s.heap.get? b = some o → b ∉ frs X.stack → (PySem.W.hideAll s.heap (frs X.stack)).get? b = some o := fun b o e n => PySem.W.hideAll_get _ e n
  have nst : ∀ b o, X.s₀.heap.get? b = some o → b ∉ X.fs → b ∉ frs X.stack := fun b o e n hb => by
    rcases List.mem_cons.mp (I.stkSub b hb) with z | z
    · exact absurd (Nat.lt_of_lt_of_le (Heap.lt_size e) I.ok.above) (by rw [z]; exact Nat.lt_irrefl _)
    · exact n z
  have noex : ∀ b : Addr, b ∉ X.ex := fun b => by rw [hex]; simp
  have fsub : ∀ b ∈ X.fs, b ∈ frs X.stack := fun b hb => by
    rw [hst]; unfold frs; rw [List.filterMap_cons, hfm]; exact List.mem_cons_of_mem _ hb
  have hff := PySem.W.funFrames_hide (as := frs X.stack) hstk (fun env he a ha => List.mem_filterMap.mpr ⟨env, he, ha⟩)
  rw [hst] at hff
  refine wpAny_leaves_madeW (base := PySem.W.hideAll s.heap (frs (X.env :: X.outer))) (h := s.heap) (s := { s with heap := h2 }) (L := X.env.locals) hfr hfm (fun b o e => PySem.W.of_hideAll _ e) hff hx fun h' t f1 f2 f3 f4 => ?_
  rw [← hst] at f1 f3
  have keepB : ∀ b o, s.heap.get? b = some o → b ∉ frs X.stack → h'.get? b = some o := fun b o e n => f1.1 b o (inB b o e n)
  have slot : ∀ b ∈ frs X.stack, ∀ o, s.heap.get? b = some o → ∃ sl, h'.get? b = some { o with slots := sl } := fun b hb o e => by
    obtain ⟨_, o', e', d⟩ := hstk.mem hb
    rw [e] at e'; cases e'
    exact f4 b o (hx.keeps b o e) d
  have xnew : X.s₀.heap.get? x = none := by
    cases e : X.s₀.heap.get? x with
    | none => rfl
    | some o =>
      obtain ⟨o', e'⟩ := I.base.there x o e (noex x)
      rw [hx.new] at e'; cases e'
  refine q h' _ ⟨I.os, I.bare, ⟨fun b o e n hb _ => ?_, fun b o e n hb _ => ?_, fun b o e n _ => I.base.free b o e n (noex b), fun b o e _ => ?_, I.base.tups, I.base.frzs, I.base.tbls⟩, fun a u e => ?_, ⟨t, f1⟩, xnew, ?_, fun b o hb e => ?_, fun b o e n hb => ?_, fun b o e hb => ?_, fun b hb => ?_⟩
  · exact keepB b o (I.base.keep b o e n hb (noex b)) (nst b o e hb)
  · obtain ⟨sl, e1⟩ := I.base.slot b o e n hb (noex b)
    obtain ⟨sl', e2⟩ := slot b (fsub b hb) _ e1
    exact ⟨sl', e2⟩
  · obtain ⟨o', e1⟩ := I.base.there b o e (noex b)
    by_cases hb : b ∈ frs X.stack
    · obtain ⟨sl, e2⟩ := slot b hb _ e1
      exact ⟨_, e2⟩
    · exact ⟨o', keepB b o' e1 hb⟩
  · refine (I.hok a u e).stay (fun b v hb q => keepB b v q fun z => ?_) (fun _ q => q) fun _ _ q => q
    have := I.stkFree b z
    rcases hb with rfl | hb
    · rw [e] at this; cases this
    · rw [hb] at this; cases this
  · cases e : H x with
    | none => rfl
    | some u =>
      obtain ⟨o, e'⟩ := ObjOk.there (I.hok x u e)
      rw [hx.new] at e'; cases e'
  · cases e' : H b with
    | none => exact absurd e' hb
    | some u =>
      obtain ⟨o1, e1⟩ := ObjOk.there (I.hok b u e')
      have nb : b ∉ frs X.stack := fun z => by have := I.stkFree b z; rw [e'] at this; cases this
      have e2 := keepB b o1 e1 nb
      have e3 : h'.get? b = some o := e
      rw [e3] at e2; cases e2
      exact inB b o e1 nb
  · exact inB b o (I.base.keep b o e n hb (noex b)) (nst b o e hb)
  · obtain ⟨o', e1⟩ := I.base.there b o e (noex b)
    exact ⟨o', inB b o' e1 (nst b o e hb)⟩
  · exact I.stkFree b (fsub b hb)
theorem pass_fly {M : Model} {s2 : Shared} {H2 : Hp} {x C : Addr} {B : Heap} {Q : Unit → Shared → Prop} {E : Value → Shared → Prop} (I : Inv X pins σ H s) (hst : X.stack = X.env :: X.outer) (hfm : X.env.frame = some X.env.locals) (hex : X.ex = []) (F : Fly X.prog X.w X.stack H s x C H2 s2 B)
    (q : ∀ h', Fly X.prog X.w X.outer X.H₀ X.s₀ x C H2 { s2 with heap := h' } B → Q () { s2 with heap := h' }) : wpAny M X.A (leaving X.env (.ref x)) Q E s2 := by
  have hfr : X.A.frames = some (X.env :: X.outer) := by rw [← hst]; exact I.ok.frames
  obtain ⟨t, fl⟩ := F.fl
  have nst : ∀ b o, X.s₀.heap.get? b = some o → b ∉ X.fs → b ∉ frs X.stack := fun b o e n hb => by
    rcases List.mem_cons.mp (I.stkSub b hb) with z | z
    · exact absurd (Nat.lt_of_lt_of_le (Heap.lt_size e) I.ok.above) (by rw [z]; exact Nat.lt_irrefl _)
    · exact n z
  have noex : ∀ b : Addr, b ∉ X.ex := fun b => by rw [hex]; simp
  have fsub : ∀ b ∈ X.fs, b ∈ frs X.stack := fun b hb => by
    rw [hst]; unfold frs; rw [List.filterMap_cons, hfm]; exact List.mem_cons_of_mem _ hb
  have fl' := fl
  rw [hst] at fl'
  refine wpAny_leaves_onW hfr hfm fl' fun h' f1 f2 => ?_
  obtain ⟨un, hok⟩ := F.turn f1.1 f2
  have xnew : X.s₀.heap.get? x = none := by
    cases e : X.s₀.heap.get? x with
    | none => rfl
    | some o =>
      obtain ⟨o', e'⟩ := I.base.there x o e (noex x)
      rw [F.new] at e'; cases e'
  refine q h' ⟨?_, F.bare, ⟨fun b o e n hb _ => ?_, fun b o e n hb _ => ?_, fun b o e n _ => ?_, fun b o e _ => ?_, fun b xs e => un.tups b xs (I.base.tups b xs e), fun b o u e => un.frzs b o u (I.base.frzs b o u e), fun b ps e => ?_⟩, hok, ⟨t, f1⟩, xnew, F.xf, fun b o hb e => ?_, fun b o e n hb => ?_, fun b o e hb => ?_, fun b hb => F.ff b (fsub b hb)⟩
  · exact F.os.trans I.os
  · exact un.keep b o (I.base.keep b o e n hb (noex b)) (I.base.free b o e n (noex b)) (nst b o e hb) (by simp)
  · obtain ⟨sl, e1⟩ := I.base.slot b o e n hb (noex b)
    obtain ⟨sl', e2⟩ := un.slot b _ e1 (I.base.free b o e n (noex b)) (fsub b hb) (by simp)
    exact ⟨sl', e2⟩
  · obtain ⟨o', e1⟩ := I.base.there b o e (noex b)
    exact un.free b o' e1 (I.base.free b o e n (noex b)) (by simp)
  · obtain ⟨o', e1⟩ := I.base.there b o e (noex b)
    exact un.there b o' e1 (by simp)
  · obtain ⟨m1, e1⟩ := I.base.tbls b ps e
    obtain ⟨m2, e2⟩ := un.tbls b _ e1
    exact ⟨m1 ++ m2, by rw [e2, Array.append_assoc]⟩
  · cases e' : H2 b with
    | none => exact absurd e' hb
    | some u =>
      obtain ⟨o1, e1⟩ := ObjOk.there (F.hok b u e')
      have e2 := F.tr b o1 hb e1
      have e3 := f1.1 b o1 e2
      have e4 : h'.get? b = some o := e
      rw [e4] at e3; cases e3
      exact e2
  · exact F.ol b o (I.base.keep b o e n hb (noex b)) (I.base.free b o e n (noex b)) (nst b o e hb)
  · obtain ⟨o', e1⟩ := I.base.there b o e (noex b)
    exact F.th b o' e1 (nst b o e hb)
end
end L3

/-! An exception object of an own class: its class, isinstance; a clause that takes it. -/
namespace L3
open PySem PySem.Spec PyProof.Rows L2 PySem.W PySem.Builtin PySem.Builtin.ObjectAttr PySem.Builtin.Getset_descriptor PySem.Calls
structure XCls (K : Frag) (C : Addr) : Prop where
  ga : findIn K (.ref C) "__getattribute__" = some (some (.builtin "BaseException.__getattribute__"))
  gh : findIn K (.ref C) "__getattr__" = some none
  bs : mroIn K C (.type "BaseException") = some true
  cl : (clsIn K C).isSome = true
  ha : findIn K (.ref C) "__class__" = some (some (.builtin "object.__class__"))
  hn : specialIn K (.builtin "object.__class__") "__get__" = some (some (.builtin "getset_descriptor.__get__"))
  htk : takesIn K (.builtin "object.__class__") = some true
  hm : mroIn K C (.type "object") = some true
section
variable {prog : Program} {w : World} {A : Around} {E : Value → Shared → Prop} {s : Shared} {K : Frag} {x C : Addr}
end
end L3

/-! raise C(..), calls that may raise, try with one call, isinstance of what was caught. -/
namespace L3
open PySem PySem.Spec PyProof.Rows L2
abbrev bmV : List Value := [.type "ValueError", .type "Exception", .type "BaseException", .type "object"]
theorem own_obj {K : PySem.W.Frag} {h : Heap} {C : Addr} {bB : List Value} {nid : String} (X : K.In h) (e : PySem.W.excIn K C bB nid = true) :
    ∃ bm N nm q bs hd sn sub ab col dd k0 k1 k2 k3 k5 mN, h.get? C = some (excClassObj nm q C N bs bm hd sn sub ab col dd k0 k1 k2 k3 k5 nid) ∧ h.Ns N mN ∧ mN "__init__" = none ∧ OwnTail h bB bm := by
  unfold PySem.W.excIn at e
  split at e
  · rename_i dd cd slots hl
    split at e
    · rename_i C1 bm k0 k1 k2 k3 n1 k5 hmro hslots
      simp only [Bool.and_eq_true, beq_iff_eq, Bool.not_eq_true'] at e
      obtain ⟨⟨⟨⟨⟨e1, e2⟩, e3⟩, e4⟩, e5⟩, e6⟩ := e
      subst e1 e2
      obtain ⟨a1, a2, a3, a4, a5, a6, a7, a8, a9, a10, a11⟩ := cd
      dsimp only at hmro e3 e5 e6
      subst hmro e3
      have es : slots = #[k0, k1, k2, k3, some (.builtin n1), k5] := by
        obtain ⟨l⟩ := slots
        simp only at hslots
        rw [hslots]
      subst es
      exact ⟨bm, a4, a1, a5, a2, a6, a7, a8, a9, a10, dd, k0, k1, k2, k3, k5, _, X _ _ hl, .of_isNs (PySem.W.isNs_of_in X e5), PySem.W.nsMap_none_of_in X e5 e6, PySem.W.tail_of_in X e4⟩
    · cases e
  · cases e
structure OwnX (K : PySem.W.Frag) (mg : Str → Option Value) (x : Str) (C : Addr) : Prop where
  nm : mg x = some (.ref C)
  ex : PySem.W.excIn K C bmV "ValueError.__new__" = true
section
variable {X : Cx}
def Raises (X : Cx) (E : XK) : Prop := ∀ (pins : List (Addr × Obj)) (σ : L2.St) (H : Hp) (s : Shared) (h2 : Heap) (x C : Addr) (vs : List Value), Inv X pins σ H s → Heap.MadeExcOf s.heap h2 x (.ref C) vs → E (.ref C) none H → X.xe (.ref x) { s with heap := h2 }
def tRaise (C : Addr) (E : XK) (te : TE) : TS := fun _ σ H => te σ H fun v H1 => [v].length = 1 ∧ E (.ref C) none H1
theorem ps_raise {x : Str} {C : Addr} {E : XK} {e : Expr} {te : TE} {np cpos pos : Pos} (O : OwnX X.K X.mg x C) (hc : X.calm = true) (hg : Gl X x) (hR : Raises X E) (he : PE X e te) (hd : (x == ("__debug__" : Str)) = false := by decide)
    (hs : starEach [e] X.env = [(false, eval e X.env)] := by rfl) (hpl : (backTo cpos (starEach [e] X.env)).any (·.1) = false := by rfl) : PS X (.Raise (some (.Call (.Name x np) [e] [] cpos)) none pos) (tRaise C E te) := by
  intro pins s σ H D I h
  obtain ⟨bm, N, nm, q, bs, hdct, sn, sub, ab, col, dd, k0, k1, k2, k3, k5, mN, hC, hN, hni, T⟩ := own_obj (h := X.base) I.ok.mod.kin O.ex
  have FV := PySem.F.excBase_ValueError
  refine wpAny_Raise_call_subU (C := C) (nm := nm) (q := q) (N := N) (bs := bs) (bm := bm) (hdct := hdct) (sn := sn) (sub := sub) (ab := ab) (col := col) (dd := dd) (k0 := k0) (k1 := k1) (k2 := k2) (k3 := k3) (k5 := k5) (mN := mN)
    FV (by decide) FV (T.hasType FV.hasBase) (I.ok.hd hc) hpl hni (ld_glob I hg O.nm ⟨rfl, ?_⟩ hd)
  have pa : PA X [e] (tCons te tNil) := pa_cons he pa_nil hs
  rw [hs]
  refine Calls.evalArgs_plain ?_
  have run := pa cpos pins s σ H (fun ws H1 => ws.length = 1 ∧ E (.ref C) none H1) I h
  rw [hs] at run
  refine wpAny_mono run (fun vs s2 ⟨ws, H2, I2, rv, hw, hE⟩ => ?_) fun _ _ y => y
  have hl : vs.length ≤ sizeLine := by
    rw [← rv.length, hw]; decide
  exact ⟨rfl, hl, I2.bk _ _ hC, hN.keeps I2.bk, T.keeps I2.bk, fun h' x0 hm => hR pins σ H2 s2 h' x0 C vs I2 hm hE⟩
/-! ### an own def that may raise -/
def Cal1 (P : Program) (w : World) (K : PySem.W.Frag) (mg : Str → Option Value) (base : Heap) (x : Str) (ps : List Str) (k : Nat) (sp : Sp) : Prop :=
  ∃ f fd, FnOk P w K mg base (CX1 P w) k f fd ps sp ∧ Binds K fd ps [] ∧ PySem.W.keepIn K (.ref f) = true ∧ mg x = some (.ref f)
def tFn1 (sp : Sp) (E : XK) (t : TA) : TE := fun σ H Q => t σ H fun vs H1 => sp vs H1 Q E
theorem pe_fn1 {x : Str} {ps : List Str} {k k' : Nat} {sp : Sp} {E : XK} {p pos : Pos} {e : Expr} {es : List Expr} {t : TA} (C : Cal1 X.prog X.w X.K X.mg X.base x ps k sp) (hr : Room k' X.A) (hk : k ≤ k') (hg : Gl X x) (hx : Passes (CX1 X.prog X.w) X E)
    (ha : PA X (e :: es) t) (hdb : (x == ("__debug__" : Str)) = false := by decide) (he : starEach (e :: es) X.env = (false, eval e X.env) :: starEach es X.env := by rfl) (hpl : (backTo pos (starEach es X.env)).any (·.1) = false := by rfl) :
    PE X (.Call (.Name x p) (e :: es) [] pos) (tFn1 sp E t) := by
  obtain ⟨f, fd, F, b, kp, hm⟩ := C
  intro pins s σ H Q I h
  refine wpAny_Call_Name_kw (ld_glob I hg hm ?_ hdb)
  refine PySem.W.callWith_K (h₀ := X.base) I.ok.mod.kin kp (thn (ha pos pins s σ H _ I h) fun us s1 ⟨vs, H1, I1, r, q⟩ => ⟨I1.kIn, ?_⟩) he hpl
  exact run_fn (dvs := []) F (hr.mono hk) b .nil hx I1 r (by rw [List.append_nil]; exact q)
theorem pass_no : Passes (CX1 X.prog X.w) X E0 := fun _ _ _ _ _ _ _ ⟨_, _, _, _, _, _, h⟩ => h.elim
end
section
variable {P : Program} {w : World} {K : PySem.W.Frag} {mg : Str → Option Value} {base : Heap} {N : List Str} {qual : Str} {scope : Scope} {f : Addr} {cd : Value} {A : Around} {outer : List Env} {s : Shared} {H : Hp} {E : XK}
theorem pass_on : Passes (CX1 P w) (cxOf (CX1 P w) P w K mg base N qual scope f cd A outer s H E) E := by
  intro pins σ H1 s1 e s2 I h
  obtain ⟨x, C, H2, B, rfl, F, hE⟩ := h
  show wpAny (model P w) _ (leaving _ (.ref x)) _ _ s2
  exact pass_fly I rfl rfl rfl F fun h' F' => ⟨x, C, H2, B, rfl, F', hE⟩
theorem raise_on : Raises (cxOf (CX1 P w) P w K mg base N qual scope f cd A outer s H E) E := by
  intro pins σ H1 s1 h2 x C vs I hm hE
  show wpAny (model P w) _ (leaving _ (.ref x)) _ _ _
  exact raise_fly I rfl rfl rfl hm fun h' B F' => ⟨x, C, H1, B, rfl, F', hE⟩
theorem Fun.ok1 {x : Str} {st : Stmt} {fd : FuncData} {ps : List Str} {k : Nat} {sp : Sp} (F : Fun K x qual st f fd) (S : FnScope N ps (defScope st)) (len : ∀ vs H Q E, sp vs H Q E → vs.length = ps.length)
    (hbody : ∀ (cdv : Value) (A : Around) (outer : List Env) (s : Shared) (H : Hp) (vs : List V) (Q : VK) (E : XK), Room k (A.deeper (envOfC qual (defScope st) s.heap.objs.size f cdv)) → sp vs H Q E →
      ∃ t, PSs (cxOf (CX1 P w) P w K mg base N qual (defScope st) f cdv A outer s H E) (defBody st) t ∧ t { nx := fun _ H' => Q .non H', rt := Q } (start N vs) H) : FnOk P w K mg base (CX1 P w) (k + 1) f fd ps sp := by
  obtain ⟨oc, od, kV, doc, pm, an, cdv, ct, osl, rfl, lk, hcd⟩ := F.ex
  exact fn_of lk hcd S len fun A outer s H vs Q E hr hsp => hbody cdv A outer s H vs Q E hr hsp
theorem own_on : PassesOwn (model P w) (cxOf (CX1 P w) P w K mg base N qual scope f cd A outer s H E).A (cxOf (CX1 P w) P w K mg base N qual scope f cd A outer s H E).env (cxOf (CX1 P w) P w K mg base N qual scope f cd A outer s H E).xe := PassesOwn.leaving
end
/-! ### what was caught -/
section
variable {X : Cx}
end
end L3

/-! try: y = f(..) / except S as n: z = n -/
namespace L3
open PySem PySem.Spec PyProof.Rows L2
section
variable {X : Cx} {pins : List (Addr × Obj)} {σ : L2.St} {H : Hp} {s : Shared}
end
end L3

/-! try: f(..) as a statement of its own, except C as n: z = n. -/
namespace L3
open PySem PySem.Spec PyProof.Rows L2
section
variable {X : Cx} {pins : List (Addr × Obj)} {σ : L2.St} {H : Hp} {s : Shared}
end
end L3

/-! a try whose block chooses between three calls, each a statement of its own. -/
namespace L3
open PySem PySem.Spec PyProof.Rows L2 PySem.W
section
variable {X : Cx}
end
end L3
namespace L3
open PySem PySem.Spec PyProof.Rows L2
end L3
namespace L3
open PySem PySem.Spec PyProof.Rows L2
theorem pe_or {X : Cx} {e : Expr} {t1 t2 : TE} (h1 : PE X e t1) (h2 : PE X e t2) : PE X e (fun σ H Q => t1 σ H Q ∨ t2 σ H Q) := fun pins s σ H Q I h => h.elim (h1 pins s σ H Q I) (h2 pins s σ H Q I)
end L3

/-! Dicts: setdefault, get; keys that are numbers, texts, or tuples of these. -/
namespace L3
open PySem PySem.Spec PyProof.Rows L2
section
variable {prog : Program} {w : World} {κ : Type} [DecidableEq κ] {knd : HeapKind prog w κ} {A : Around} {E : Value → Shared → Prop} {s : Shared}
theorem sd_heap {d a : Addr} {xs : List (κ × Addr × Value)} {k : κ} {v : Value} {Q : Value → Shared → Prop} (hu : knd.room A) (hkey : knd.is s.heap k a) (hm : s.heap.DictOfH knd d xs) (hsz : xs.length ≤ sizeLine)
    (h1 : ∀ p, atKey xs k = some p → Q p.2 { s with toks := s.toks + knd.draws k })
    (h2 : atKey xs k = none → ∀ h', h'.DictOfH knd d (storedH xs k a v) → Heap.SameBut d s.heap h' → Q v { s with heap := h', toks := s.toks + knd.draws k }) :
    wpAny (model prog w) A (dictSetDefault d (.ref a) v) Q E s := by
  obtain ⟨o, es, ep, ho, hc, hd, he, his, hn⟩ := hm
  unfold dictSetDefault
  try with_reducible refine wpAny_holding ?_
  refine wpAny_bind (knd.pyHash hu hkey (wpAny_bind (wpAny_dictFind_heap (s := { s with toks := s.toks + knd.draws k }) hu hkey ho hd he his hn ?_ ?_)))
  · intro hno
    have hnot : k ∉ xs.map (·.1) := not_mem_keys_of_get hno
    have hsn := storedH_new (a := a) (v := v) (atKey_none_of_get hno)
    refine wpAny_bind (wpAny_rule (wpAny_bind (wpAny_updateDictKeys (hz := by have e := size_of_entries he; omega) (s := { s with toks := s.toks + knd.draws k }) ho hd (wpAny_pure
      (h2 (atKey_none_of_get hno) _ ⟨_, _, ep + 1, Heap.get?_update_self _ ho (Obj.isFreed_of_dict (Obj.data_mapDictKeys hd _)), hc.mapDictKeys _, Obj.data_mapDictKeys hd _, ?_, ?_, ?_⟩ (Heap.SameBut.update ..))))))
    · rw [hsn]; simp [he, entryOfKey]
    · rw [hsn]
      intro x hx
      rcases List.mem_append.mp hx with hx | hx
      · exact knd.keeps (his x hx) ho hd (Heap.SameBut.update ..)
      · cases List.mem_singleton.mp hx
        exact knd.keeps hkey ho hd (Heap.SameBut.update ..)
    · rw [hsn, List.map_append, List.nodup_append]
      refine ⟨hn, by simp, fun x hx y hy => ?_⟩
      cases List.mem_singleton.mp hy
      exact fun e => hnot ((show x = k from e) ▸ hx)
  · intro j p hj
    refine wpAny_bind (wpAny_dictEntries (s := { s with toks := s.toks + knd.draws k }) ho hd ?_)
    rw [entry_at he j, hj]
    exact wpAny_bind (wpAny_rule (wpAny_pure (h1 _ (atKey_of_get hn hj))))
theorem sd_meets {d a : Addr} (hd : (d == sysModules) = false) (dflt : Value) :
    MeetsIn prog w (Builtin.«dict.setdefault» ⟨[.ref d, .ref a, dflt], []⟩) (fun A R s => knd.room A.in1 ∧ ∃ k xs, knd.is s.heap k a ∧ s.heap.DictOfH knd d xs ∧ xs.length ≤ sizeLine ∧
      (∀ p, atKey xs k = some p → R (.ok (.ret p.2)) { s with toks := s.toks + knd.draws k }) ∧
      (atKey xs k = none → ∀ h', h'.DictOfH knd d (storedH xs k a dflt) → Heap.SameBut d s.heap h' → R (.ok (.ret dflt)) { s with heap := h', toks := s.toks + knd.draws k })) :=
  .of_wp fun A R s ⟨hu, k, xs, hkey, hm, hz, h1, h2⟩ => by
    unfold Builtin.«dict.setdefault»
    refine wpAny_bind ?_
    unfold Builtin.Dict.keyAndDefault
    refine wpAny_bind (wpAny_notOrdered_dict hm.typeIs ?_)
    show wpAny _ _ (pure (d, Value.ref a, some dflt)) _ _ s
    refine wpAny_pure ?_
    show wpAny _ _ (if (d == sysModules) = true then _ else (dictSetDefault d (.ref a) dflt >>= _)) _ _ s
    rw [if_neg (by rw [hd]; exact Bool.false_ne_true)]
    exact wpAny_bind (sd_heap hu hkey hm hz (fun p hp => wpAny_pure ⟨_, rfl, h1 p hp⟩) fun hn h' hm' hs' => wpAny_pure ⟨_, rfl, h2 hn h' hm' hs'⟩)
end
section
variable {X : Cx}
def rSetD : V → List V → Hp → VK → Prop := fun x vs H Q => ∃ a y z, x = .ref a ∧ vs = [y, z] ∧
  ((∃ kvs k, H a = some (.dK kvs) ∧ y = kV k ∧ kvs.length < sizeLine ∧ (∀ r, valV kvs k = some r → Q r H) ∧ (valV kvs k = none → Q z (upd H a (.dK (putK kvs k z))))) ∨
   ∃ kvs k b, H a = some (.dT kvs) ∧ y = .ref b ∧ H b = some (.tup (k.map kV)) ∧ kvs.length < sizeLine ∧ (∀ r, valV kvs k = some r → Q r H) ∧ (valV kvs k = none → Q z (upd H a (.dT (putK kvs k z)))))
theorem args_sd (a b c : Value) : argsOk "dict.setdefault" ⟨[a, b, c], []⟩ := by unfold argsOk; kernel_rfl
theorem mt_setdefault {k0 : Nat} (hr : Room k0 X.A) : MtR X "dict.setdefault" rSetD := by
  intro pins s σ H x vs v us Q I rx rv h
  obtain ⟨a, y, z, rfl, rfl, h⟩ := h
  cases rx
  obtain ⟨u, r, rfl, ru, rr⟩ := vals2 rv
  rcases h with ⟨kvs, k, e, rfl, hl, h1, h2⟩ | ⟨kvs, k, b, e, rfl, eb, hl, h1, h2⟩
  · obtain ⟨hz, hd, ws, rel, dd⟩ := dk_of I.hok e
    refine call_meetsIn PySem.F.slot_dict_setdefault dd.typeIs PySem.F.entry_dict_setdefault (args_sd _ _ _) (kt_meets_setdefault (mixKind X.prog X.w) a (kV_is ru) hd r)
      ⟨ws, dd, by rw [← rel.length]; exact hz, fun v' hv' => ?_, fun hn h' dd' hs => ?_⟩
    · have q := rel.val k
      rw [hv'] at q
      cases hk : valV kvs k with
      | none => rw [hk] at q; exact q.elim
      | some r' => rw [hk] at q; exact ⟨r', H, I.tok _, q, h1 r' hk⟩
    · have q := rel.val k
      rw [hn] at q
      cases hk : valV kvs k with
      | some r' => rw [hk] at q; exact q.elim
      | none =>
        refine ⟨z, _, d_write I (by rw [e]; exact True.intro) hs (let ⟨q, _, _, hq, _⟩ := dd'; ⟨q, hq⟩) (dk_new ?_ hd (rel.put k rr) dd'), rr, h2 hk⟩
        have := length_putK kvs k z
        omega
  · cases (show u = Value.ref b from ru)
    obtain ⟨hz, hd, xs, rel, dd⟩ := dt_of I.hok e
    refine call_meetsIn PySem.F.slot_dict_setdefault dd.typeIs PySem.F.entry_dict_setdefault (args_sd _ _ _) (sd_meets (knd := tupleKind (mixKind X.prog X.w)) (d := a) (a := b) hd r)
      ⟨tupleKind_room_in1 (hu_of hr), k, xs, key_of I.hok eb, dd, by rw [← Paired.length rel]; exact hz, fun p hp => ?_, fun hn h' dd' hs => ?_⟩
    · have q := rel.val k
      rw [hp] at q
      cases hk : valV kvs k with
      | none => rw [hk] at q; exact q.elim
      | some r' => rw [hk] at q; exact ⟨r', H, I.tok _, q, h1 r' hk⟩
    · have q := rel.val k
      rw [hn] at q
      cases hk : valV kvs k with
      | some r' => rw [hk] at q; exact q.elim
      | none =>
        obtain ⟨q, es, ep, hq, g2, g3, g4, _, g5⟩ := dd'
        refine ⟨z, upd H a (.dT (putK kvs k z)), d_write (ob := .dT (putK kvs k z)) I (by rw [e]; exact True.intro) hs ⟨q, hq⟩ ⟨?_, hd, _, (rel.put k eb rr).keeps fun c ys ec => ?_, q, es, ep, hq, g2, g3, g4, g5⟩, rr, h2 hk⟩
        · have := length_putK kvs k z
          omega
        · rw [upd_ne (ne_of ec e (fun z => nomatch z))]
          exact ec
def rGet2 : V → List V → Hp → VK → Prop := fun x vs H Q => ∃ a y z o, x = .ref a ∧ vs = [y, z] ∧ DGet H a y o ∧ Q (o.getD z) H
theorem mt_get2 {k0 : Nat} (hr : Room k0 X.A) : MtR X "dict.get" rGet2 := by
  intro pins s σ H x vs v us Q I rx rv h
  obtain ⟨a, y, z, o, rfl, rfl, g, q⟩ := h
  cases rx
  obtain ⟨u, r, rfl, ru, rr⟩ := vals2 rv
  exact d_get2 (hu_of hr) I g ru rr fun w' s' I' rw' => ⟨_, H, I', rw', q⟩
end
end L3

/-! A loop over a text. -/
namespace L3
open PySem PySem.Spec PyProof.Rows L2
def Its (x : Str) : It := ⟨fun i _ => i < x.cps.size, fun i H v H' => H' = H ∧ ∃ c, x.cps[i]? = some c ∧ v = .str ⟨#[c]⟩, fun i _ => x.cps.size ≤ i⟩
section
variable {X : Cx} {tg : Expr}
end
end L3

/-! A dict of whatever keys, walked: list(d), sorted(d), for k in d. -/
namespace L3
open PySem PySem.Spec PyProof.Rows L2 PySem.W
def RawD (d : Addr) (es : Array DictEntry) (p : Nat) (h : Heap) : Prop := ∃ b, h.get? d = some b ∧ b.ExactDict ∧ b.data = .dict es p
section
variable {prog : Program} {w : World} {A : Around} {E : Value → Shared → Prop} {s : Shared} {d it : Addr} {es : Array DictEntry} {p i : Nat}
theorem RawD.ty (r : RawD d es p s.heap) : s.TypeIs (.ref d) "dict" := let ⟨b, e, x, _⟩ := r; ⟨b, e, x.1⟩
theorem RawD.at {h h' : Heap} (r : RawD d es p h) (k : ∀ o, h.get? d = some o → h'.get? d = some o) : RawD d es p h' := let ⟨b, e, x⟩ := r; ⟨b, k _ e, x⟩
theorem RawD.lt {h : Heap} (r : RawD d es p h) : d < h.objs.size := let ⟨_, e, _⟩ := r; Heap.lt_size e
theorem rd_iter {Q : Value → Shared → Prop} (lo : (d == sysModules) = false) (r : RawD d es p s.heap)
    (q : Q (.ref s.heap.objs.size) { s with heap := s.heap.push { cls := .type "dict_keyiterator", data := .fields #[.ref d, .int 0 0, .int es.size 0, .int p 0] } }) : wpAny (model prog w) A (pyIter (.ref d)) Q E s := by
  obtain ⟨b, eb, xb, db⟩ := id r
  refine wpAny_pyIter_slot r.ty PySem.F.slot_dict_iter (wpAny_call_entry PySem.F.slot_dict_iter r.ty PySem.F.entry_dict_iter ?_ (PySem.F.args_dict_iter_1 _))
  unfold Builtin.«dict.__iter__»
  refine wpAny_bind ?_
  unfold Builtin.Dict.dictSlotNone
  refine wpAny_bind (wpAny_notOrdered_dict r.ty ?_)
  show wpAny _ _ (pure (.ref d : Value)) _ _ s
  refine wpAny_pure ?_
  show wpAny _ _ (Builtin.Dict.showsAll d >>= fun _ => _) _ _ s
  unfold Builtin.Dict.showsAll
  rw [lo]
  refine wpAny_bind (wpAny_pure (wpAny_bind (wpAny_dictEntries eb db (wpAny_bind (wpAny_dictEpoch eb db ?_)))))
  exact wpAny_bind (wpAny_newObj_type (wpAny_pure ⟨_, rfl, _, _, ⟨_, Heap.get?_push_size _ rfl, rfl⟩, PySem.F.slot_dict_keyiterator_next.lookup, q⟩))
theorem rd_item {Q : Option Value → Shared → Prop} {e : DictEntry} (st : s.heap.IsKeyIter it d i es.size p) (r : RawD d es p s.heap) (hx : es[i]? = some e)
    (q : ∀ h', h'.IsKeyIter it d (i + 1) es.size p → Heap.SameBut it s.heap h' → Q (some e.key) { s with heap := h' }) : wpAny (model prog w) A (pyNext (.ref it)) Q E s := by
  obtain ⟨b, eb, cb, db⟩ := id st
  obtain ⟨c, ec, xc, dc⟩ := id r
  unfold pyNext
  refine wpAny_bind (wpAny_attempt (wpAny_callSpecial?_slot (name := Str.ofString "__next__") st.typeIs PySem.F.slot_dict_keyiterator_next (wpAny_call_entry PySem.F.slot_dict_keyiterator_next st.typeIs PySem.F.entry_dict_keyiterator_next ?_ (PySem.F.args_dict_keyiterator_next_1 _))))
  refine wpAny_bind (wpAny_pure (wpAny_bind (wpAny_bind ?_)))
  refine wpAny_bind (wpAny_typeNameOfWhole_keyiter st.typeIs (wpAny_pure (wpAny_bind (wpAny_fieldsOf eb db ?_))))
  have own : Builtin.Dict_items.ownsTuple "dict_keyiterator" = false := by decide
  simp only [own, Bool.false_eq_true, if_false]
  show wpAny _ _ (if (Value.ref d == Value.none) = true then _ else _) _ _ _
  rw [if_neg (by intro z; cases z)]
  refine wpAny_bind (wpAny_pure (wpAny_bind (wpAny_dictEntries ec dc ?_)))
  rw [if_neg (by simp)]
  refine wpAny_bind (wpAny_pure (wpAny_bind (wpAny_dictEpoch ec dc ?_)))
  rw [if_neg (by simp)]
  refine wpAny_pure ?_
  simp only [show ¬ ((i : Int) < 0) by omega, if_false, Int.toNat_natCast, hx]
  refine wpAny_bind (wpAny_bind (wpAny_typeNameOfWhole_keyiter st.typeIs (wpAny_pure ?_)))
  refine wpAny_bind (wpAny_isOneOf_keyiter st.typeIs ?_)
  show wpAny _ _ (setField (.ref it) 1 (rawInt (i + 1)) >>= _) _ _ _
  refine wpAny_bind (wpAny_setField eb db (by simp) ?_)
  have st' : (s.heap.update it (Obj.mapFields (·.setIfInBounds 1 (rawInt ((i : Int) + 1))))).IsKeyIter it d (i + 1) es.size p :=
    ⟨_, Heap.get?_update_self _ eb (Obj.isFreed_of_fields (Obj.data_mapFields db _)), (Obj.cls_mapFields ..).trans cb, by rw [Obj.data_mapFields db]; simp [rawInt]⟩
  refine wpAny_bind (wpAny_holding (wpAny_bind (wpAny_isOneOf_keyiter (s := { s with heap := _ }) st'.typeIs ?_)))
  show wpAny _ _ (pure e.key) _ _ _
  exact wpAny_pure (wpAny_pure ⟨_, rfl, wpAny_pure (q _ st' (Heap.SameBut.update ..))⟩)
theorem rd_end {Q : Option Value → Shared → Prop} (hh : A.handled = none) (st : s.heap.IsKeyIter it d i es.size p) (r : RawD d es p s.heap) (hx : es[i]? = none)
    (q : ∀ h', Heap.ExtBut it s.heap h' → Q none { s with heap := h' }) : wpAny (model prog w) A (pyNext (.ref it)) Q E s := by
  obtain ⟨b, eb, cb, db⟩ := id st
  obtain ⟨c, ec, xc, dc⟩ := id r
  unfold pyNext
  refine wpAny_bind (wpAny_attempt (wpAny_callSpecial?_slot (name := Str.ofString "__next__") st.typeIs PySem.F.slot_dict_keyiterator_next (wpAny_call_entry PySem.F.slot_dict_keyiterator_next st.typeIs PySem.F.entry_dict_keyiterator_next ?_ (PySem.F.args_dict_keyiterator_next_1 _))))
  refine wpAny_bind (wpAny_pure (wpAny_bind (wpAny_bind ?_)))
  refine wpAny_bind (wpAny_typeNameOfWhole_keyiter st.typeIs (wpAny_pure (wpAny_bind (wpAny_fieldsOf eb db ?_))))
  have own : Builtin.Dict_items.ownsTuple "dict_keyiterator" = false := by decide
  simp only [own, Bool.false_eq_true, if_false]
  show wpAny _ _ (if (Value.ref d == Value.none) = true then _ else _) _ _ _
  rw [if_neg (by intro z; cases z)]
  refine wpAny_bind (wpAny_pure (wpAny_bind (wpAny_dictEntries ec dc ?_)))
  rw [if_neg (by simp)]
  refine wpAny_bind (wpAny_pure (wpAny_bind (wpAny_dictEpoch ec dc ?_)))
  rw [if_neg (by simp)]
  refine wpAny_pure ?_
  simp only [show ¬ ((i : Int) < 0) by omega, if_false, Int.toNat_natCast, hx]
  refine wpAny_bind (wpAny_bind (wpAny_typeNameOfWhole_keyiter st.typeIs (wpAny_pure ?_)))
  show wpAny _ _ (setField (.ref it) 0 Value.none >>= _) _ _ _
  refine wpAny_bind (wpAny_setField eb db (by simp) ?_)
  show wpAny _ _ (newExc (.type "StopIteration") ([] : List Value) >>= _) _ _ _
  refine wpAny_bind ?_
  simp only [newExc, newTuple]
  refine wpAny_bind (wpAny_newObj_type (wpAny_bind (m := firstArgMember _ _) (wpAny_of_eq (a := .none) (by first | rfl | (simp only [firstArgMember]; rfl)) (wpAny_newObj_type ?_ (by size_fits)))) (by size_fits))
  simp only [raiseNew]
  refine wpAny_bind (wpAny_handled ?_)
  rw [show A.in1.handled = none from hh]
  refine wpAny_bind (wpAny_pure (wpAny_throw ?_))
  refine wpAny_bind (wpAny_isInstance (b := true) (T := "StopIteration") ⟨_, Heap.get?_push_size _ rfl, rfl⟩ isSubtype_stop ?_)
  exact wpAny_pure (q _ (((Heap.SameBut.update ..).extBut.push _).push _))
theorem rd_walks (hh : A.handled = none) (hne : d ≠ it) (es : Array DictEntry) (p : Nat) :
    Walks prog w A it [it, d] [it] es.size (fun i v => ∃ e, es[i]? = some e ∧ v = e.key) (fun i h => h.IsKeyIter it d i es.size p ∧ RawD d es p h) where
  sub := fun b hb => by simp at hb; simp [hb]
  frame := fun _ _ _ st k => ⟨st.1.at fun o e => k it (by simp) o e, st.2.at fun o e => k d (by simp) o e⟩
  item := fun i s Q E hi st q => by
    have hx : es[i]? = some es[i] := by simp [hi]
    exact rd_item st.1 st.2 hx fun h' st' sb => q _ h' s.toks ⟨_, hx, rfl⟩ ⟨st', st.2.at fun o e => sb.extBut d o hne e⟩ fun b o hb e => sb.extBut b o (fun z => hb (by simp [z])) e
  done := fun s Q E st q => rd_end hh st.1 st.2 (by simp) fun h' eb => q h' s.toks fun b o hb e => eb b o (fun z => hb (by simp [z])) e
  self := fun _ _ _ _ st q => wpAny_pyIter_keyiter st.1 q
theorem rd_src (lo : (d == sysModules) = false) : KdlSrc prog w "dict" d d es.size (fun i v => ∃ e, es[i]? = some e ∧ v = e.key) (RawD d es p) where
  type := fun _ r => r.ty
  there := fun _ r => ⟨r.lt, r.lt⟩
  keep := fun _ _ r k => r.at fun o e => k d (.inl rfl) o e
  notList := by decide
  notTuple := by decide
  hint := fun _ _ _ _ r q => kdl_hint_dict r.ty q
  iter := fun _ _ hh r => ⟨_, _, fun _ _ q => rd_iter lo r q, rd_walks hh (Nat.ne_of_lt r.lt) es p, ⟨⟨_, Heap.get?_push_size _ rfl, rfl, rfl⟩, r.at fun o e => Heap.get?_push_of_some _ e⟩⟩
end
end L3

/-! Dicts: len, list, sorted. -/
namespace L3
open PySem PySem.Spec PyProof.Rows L2 PySem.W
section
variable {prog : Program} {w : World} {A : Around} {E : Value → Shared → Prop} {s : Shared} {d : Addr} {es : Array DictEntry} {p : Nat}
theorem rd_collect {R : List Value → Shared → Prop} (hh : A.handled = none) (lo : (d == sysModules) = false) (r : RawD d es p s.heap) (z : es.size ≤ sizeLine)
    (q : ∀ (h' : Heap) (tk : Nat) (acc : Array Value), s.heap.objs.size < h'.objs.size → (∀ b o, s.heap.get? b = some o → h'.get? b = some o) → ItemsOf (fun i v => ∃ e, es[i]? = some e ∧ v = e.key) acc es.size → R acc.toList { s with heap := h', toks := tk }) :
    wpAny (model prog w) A (collect (.ref d)) R E s := by
  have lt := r.lt
  unfold collect
  refine wpAny_bind (wpAny_runValue (codeAny_builtin entry_proto_collect' ?_))
  rw [Around.under_plainId PySem.F.plain_proto_collect]
  show wpAny _ A.in1 (newList ([] : List Value) >>= fun l => again (.builtin "list.__iadd__" ⟨[l, .ref d], []⟩)) _ _ _
  refine wpAny_bind (wpAny_newObj_type (wpAny_pure ⟨plainId_quiet PySem.F.plain_list_iadd _, codeAny_builtin entry_list_iadd' ?_⟩))
  rw [Around.under_plainId PySem.F.plain_list_iadd]
  have l0 : (s.heap.push { cls := .type "list", data := .seq ([] : List Value).toArray }).get? s.heap.objs.size = some { cls := .type "list", data := .seq #[] } := Heap.get?_push_size _ rfl
  show wpAny _ A.in1 (Builtin.List.listExtendWith (.ref s.heap.objs.size) (.ref d) (.ref s.heap.objs.size)) _ _ _
  have go := kdl_extend (prog := prog) (w := w) (A := A) (s := { s with heap := s.heap.push { cls := .type "list", data := .seq ([] : List Value).toArray } })
    (R := fun (x : Result) (s2 : Shared) => ∃ (h2 : Heap) (tk : Nat) (ac : Array Value) (c2 : Nat), x = .ok (.ret (.ref s.heap.objs.size)) ∧ s2 = { s with heap := h2, toks := tk } ∧ (∀ b o, s.heap.get? b = some o → h2.get? b = some o) ∧
      h2.get? s.heap.objs.size = some { cls := .type "list", dict := none, data := .seq ac c2, slots := #[] } ∧ ItemsOf (fun i v => ∃ e, es[i]? = some e ∧ v = e.key) ac es.size)
    (rd_src (p := p) lo) hh (r.at fun o e => Heap.get?_push_of_some _ e) s.heap.objs.size (Nat.ne_of_gt lt) (Nat.ne_of_gt lt) (.ref s.heap.objs.size) 0 l0
    (fun h2 tk ac c2 k e i => ⟨h2, tk, ac, c2, rfl, rfl, fun b o x => k b o (Nat.ne_of_lt (Heap.lt_size x)) (Heap.get?_push_of_some _ x), e, i⟩) z
  have fin : ∀ {h2 : Heap} {tk : Nat} {ac : Array Value} {c2 : Nat}, (∀ b o, s.heap.get? b = some o → h2.get? b = some o) → h2.get? s.heap.objs.size = some { cls := .type "list", dict := none, data := .seq ac c2, slots := #[] } →
      ItemsOf (fun i v => ∃ e, es[i]? = some e ∧ v = e.key) ac es.size → R ac.toList { s with heap := h2, toks := tk } := fun {h2 tk ac c2} k e i => q h2 tk ac (Heap.lt_size e) k i
  refine wpAny_mono go (fun fn s2 x => ?_) fun e s2 x => ?_
  · cases fn with
    | done f =>
      obtain ⟨h2, tk, ac, c2, e, rfl, k, y, i⟩ := x
      cases e
      show wpAny _ A (load s.heap.objs.size >>= fun _ => _) _ _ _
      exact wpAny_bind (wpAny_load y (wpAny_pure (fin k y i)))
    | again c1 =>
      refine ⟨x.1, codeAny_mono x.2 fun r2 s3 y => ?_⟩
      obtain ⟨h2, tk, ac, c2, rfl, rfl, k, y, i⟩ := y
      show wpAny _ A (load s.heap.objs.size >>= fun _ => _) _ _ _
      exact wpAny_bind (wpAny_load y (wpAny_pure (fin k y i)))
  · obtain ⟨_, _, _, _, x, _⟩ := x
    cases x
end
end L3

/-! Dicts in calls: len(d), list(d), sorted(d). -/
namespace L3
open PySem PySem.Spec PyProof.Rows L2 PySem.W
theorem paired_at {α β : Type} {F : α → β → Prop} : ∀ {l : List α} {m : List β} {i : Nat} {a : α}, Paired F l m → l[i]? = some a → ∃ b, m[i]? = some b ∧ F a b
  | _, _, _, _, .nil, e => by simp at e
  | _, _, 0, _, .cons r _, e => by simp at e; subst e; exact ⟨_, rfl, r⟩
  | _, _, i + 1, a, .cons _ t, e => by
    obtain ⟨b, h1, h2⟩ := paired_at (i := i) (a := a) t (by simpa using e)
    exact ⟨b, by simpa using h1, h2⟩
theorem vals_by {ys : List V} {us : List Value} (hl : us.length = ys.length) (h : ∀ (i : Nat) (u : Value) (y : V), us[i]? = some u → ys[i]? = some y → RelV y u) : Vals ys us := by
  induction ys generalizing us with
  | nil => cases us with | nil => exact .nil | cons _ _ => cases hl
  | cons y ys ih =>
    cases us with
    | nil => cases hl
    | cons u us => exact .cons (h 0 u y rfl rfl) (ih (Nat.succ.inj hl) fun i u' y' e1 e2 => h (i + 1) u' y' (by simpa using e1) (by simpa using e2))
section
variable {X : Cx} {pins : List (Addr × Obj)} {σ : L2.St} {H : Hp} {s : Shared} {a : Addr}
theorem raw_k {kvs : List (Key × V)} (I : Inv X pins σ H s) (e : H a = some (.dK kvs)) : kvs.length ≤ sizeLine ∧ (a == sysModules) = false ∧ ∃ es p, RawD a es p s.heap ∧ es.size = kvs.length ∧ ∀ (i : Nat) (x : DictEntry) (kv : Key × V), es[i]? = some x → kvs[i]? = some kv → RelV (kV kv.1) x.key := by
  obtain ⟨z, lo, vs, r, o, es, p, h1, h2, h3, h4, h5, h6⟩ := (show ObjOk X.prog X.w H s.heap a (.dK kvs) from I.hok a _ e)
  have hsz : es.size = kvs.length := by rw [r.length, ← h5.length]; simp
  refine ⟨z, lo, es, p, ⟨o, h1, h2, h3⟩, hsz, fun i x kv ex ek => ?_⟩
  obtain ⟨q, hq, ⟨e1, _⟩⟩ := paired_at r ek
  have hk := (h5.get? (i := i) (e := x) (k := q.1) (v := q.2) (by rw [Array.getElem?_toList]; exact ex) hq).1
  rw [e1]
  rcases keyIs_shape hk with ⟨n, t, h7, h8⟩ | ⟨n, t, h7, h8⟩
  · rw [h7, h8]; exact ⟨t, rfl⟩
  · rw [h7, h8]; exact ⟨t, rfl⟩
theorem raw_t {kvs : List (List Key × V)} (I : Inv X pins σ H s) (e : H a = some (.dT kvs)) : kvs.length ≤ sizeLine ∧ (a == sysModules) = false ∧ ∃ es p, RawD a es p s.heap ∧ es.size = kvs.length ∧
    ∃ bs : List Addr, Paired (fun (kv : List Key × V) b => H b = some (.tup (kv.1.map kV))) kvs bs ∧ ∀ (i : Nat) (x : DictEntry) (b : Addr), es[i]? = some x → bs[i]? = some b → x.key = .ref b := by
  obtain ⟨z, lo, xs, r, o, es, p, h1, h2, h3, h4, h9⟩ := (show ObjOk X.prog X.w H s.heap a (.dT kvs) from I.hok a _ e)
  have hsz : es.size = kvs.length := by rw [Paired.length r, ← Array.length_toList, h4, List.length_map]
  refine ⟨z, lo, es, p, ⟨o, h1, h2, h3⟩, hsz, xs.map (·.2.1), ?_, fun i x b ex eb => ?_⟩
  · clear h4 h9 hsz z e
    induction r with
    | nil => exact .nil
    | cons q _ ih => exact .cons q.2.1 ih
  · rw [← Array.getElem?_toList, h4, List.getElem?_map] at ex
    rw [List.getElem?_map] at eb
    cases hx : xs[i]? with
    | none => rw [hx] at eb; cases eb
    | some q =>
      rw [hx] at ex eb
      cases ex
      cases eb
      rfl
def rListD : List V → Hp → VK → Prop := fun xs H Q => ∃ a, xs = [.ref a] ∧
  ((∃ kvs, H a = some (.dK kvs) ∧ ∀ l, H l = none → Q (.ref l) (upd H l (.lst (kvs.map fun kv => kV kv.1)))) ∨
   ∃ kvs, H a = some (.dT kvs) ∧ ∀ (bs : List Addr) l, Paired (fun (kv : List Key × V) b => H b = some (.tup (kv.1.map kV))) kvs bs → H l = none → Q (.ref l) (upd H l (.lst (bs.map V.ref))))
theorem call_list_d (hc : X.calm = true) : CallR X (.type "list") rListD := by
  intro pins s σ H xs us Q I r h
  obtain ⟨a, rfl, h⟩ := h
  obtain ⟨u, rfl, ru⟩ := vals1 r
  cases ru
  have fin : ∀ (ys : List V) (es : Array DictEntry) (h' : Heap) (tk : Nat) (acc : Array Value) (c : Nat), ys.length ≤ sizeLine → es.size = ys.length → (∀ (i : Nat) (x : DictEntry) (y : V), es[i]? = some x → ys[i]? = some y → RelV y x.key) →
      (∀ b o, s.heap.get? b = some o → h'.get? b = some o) → h'.get? s.heap.objs.size = some { cls := .type "list", dict := none, data := .seq acc c, slots := #[] } → ItemsOf (fun i v => ∃ e, es[i]? = some e ∧ v = e.key) acc es.size →
      (∀ l, H l = none → Q (.ref l) (upd H l (.lst ys))) → EP X pins σ Q (.ref s.heap.objs.size) { s with heap := h', toks := tk } := fun ys es h' tk acc c z hs hr kp e it q => by
    refine ⟨.ref s.heap.objs.size, _, I.laid (t' := tk) (o := .lst ys) kp (Nat.le_refl _) ⟨z, acc.toList, c, vals_by (by rw [Array.length_toList, it.1, hs]) fun i u y e1 e2 => ?_, ?_⟩, rfl, q _ (I.hok.fresh (Nat.le_refl _))⟩
    · obtain ⟨x, ex, rfl⟩ := it.2 i u (by rw [← Array.getElem?_toList]; exact e1)
      exact hr i x y ex e2
    · rw [Array.toArray_toList]; exact e
  rcases h with ⟨kvs, e, q⟩ | ⟨kvs, e, q⟩
  · obtain ⟨z, lo, es, p, rr, hs, hr⟩ := raw_k I e
    refine kdl_call (rd_src (p := p) lo) (I.ok.hd hc) rr (by rw [hs]; exact z) fun h' tk acc c kp e' it => fin _ es h' tk acc c (by rw [List.length_map]; exact z) (by rw [List.length_map]; exact hs) (fun i x y ex ey => ?_) kp e' it q
    rw [List.getElem?_map] at ey
    cases hk : kvs[i]? with
    | none => rw [hk] at ey; cases ey
    | some kv => rw [hk] at ey; cases ey; exact hr i x kv ex hk
  · obtain ⟨z, lo, es, p, rr, hs, bs, pb, hr⟩ := raw_t I e
    have hb := Paired.length pb
    refine kdl_call (rd_src (p := p) lo) (I.ok.hd hc) rr (by rw [hs]; exact z) fun h' tk acc c kp e' it => fin _ es h' tk acc c (by rw [List.length_map, ← hb]; exact z) (by rw [List.length_map, ← hb]; exact hs) (fun i x y ex ey => ?_) kp e' it fun l hl => q bs l pb hl
    rw [List.getElem?_map] at ey
    cases hk : bs[i]? with
    | none => rw [hk] at ey; cases ey
    | some b => rw [hk] at ey; cases ey; exact hr i x b ex hk
end
end L3
namespace L3
open PySem PySem.Spec PyProof.Rows L2
theorem bt_sorted : bootBuiltins "sorted" = some (.builtin "sorted") := by decide +kernel
theorem for_str {x : Str} {g : TG} {tb : TS} {D : Ends} {σ : L2.St} {H : Hp} (Pv : Nat → L2.St → Hp → Prop) (h0 : Pv 0 σ H)
    (hs : ∀ i c σ H, x.cps.toList[i]? = some c → Pv i σ H → g (.str ⟨#[c]⟩) σ H fun σ2 H2 => tb { D with nx := Pv (i + 1), ct := Pv (i + 1), bk := D.nx } σ2 H2) (hd : ∀ σ H, Pv x.cps.toList.length σ H → D.nx σ H) :
    ∃ W : Nat → Nat → L2.St → Hp → Prop, (∃ m, W 0 m σ H) ∧ ∀ i m σ H, W i m σ H →
      ((Its x).stop i H ∧ D.nx σ H) ∨ ((Its x).go i H ∧ ∃ N : L2.St → Hp → Prop, (∀ σ' H', N σ' H' → ∃ m', m' < m ∧ W (i + 1) m' σ' H') ∧ ∀ v H', (Its x).yld i H v H' → g v σ H' fun σ2 H2 => tb { D with nx := N, ct := N, bk := D.nx } σ2 H2) := by
  refine ⟨fun i m σ H => m = x.cps.size - i ∧ i ≤ x.cps.size ∧ Pv i σ H, ⟨x.cps.size, by simp, Nat.zero_le _, h0⟩, ?_⟩
  rintro i m σ H ⟨rfl, hi, p⟩
  by_cases c : i < x.cps.size
  · refine .inr ⟨c, Pv (i + 1), fun σ' H' p' => ⟨x.cps.size - (i + 1), by omega, rfl, c, p'⟩, fun v H' y => ?_⟩
    obtain ⟨rfl, k, hk, rfl⟩ := y
    exact hs i k σ _ (by rw [Array.getElem?_toList]; exact hk) p
  · have e : i = x.cps.toList.length := by rw [Array.length_toList]; omega
    refine .inl ⟨Nat.le_of_not_lt c, hd σ H (e ▸ p)⟩
end L3

/-! for over enumerate of a list, with a pair of names as the target. -/
namespace L3
open PySem PySem.Spec PyProof.Rows L2
section
variable {X : Cx} {pins : List (Addr × Obj)} {σ : List (Option V)} {H : Hp} {s : Shared} {h' : Heap}
theorem turned2 {t' : Nat} {e it : Addr} (I : Inv X pins σ H s) (k : ∀ b o, b ≠ e → b ≠ it → s.heap.get? b = some o → h'.get? b = some o) (fe : FpOk X pins H e) (fi : FpOk X pins H it) : Inv X pins σ H { s with heap := h', toks := t' } := by
  have ne : ∀ b u, H b = some u → b ≠ e ∧ b ≠ it := fun b u q => ⟨(fun z => by rw [z, fe.1] at q; cases q), (fun z => by rw [z, fi.1] at q; cases q)⟩
  have kk : ∀ b o, b ∉ [e, it] → s.heap.get? b = some o → h'.get? b = some o := fun b o hc q => k b o (fun z => hc (by simp [z])) (fun z => hc (by simp [z])) q
  refine I.step (g' := s.gens) (d' := s.drawn) (ch := [e, it]) ?_ (fun b o _ _ hc q _ => kk b o hc q) (fun b o _ _ hc q _ => ⟨o.slots, kk b o hc q⟩) (fun _ _ _ _ n => n)
    (fun b o hc q => ⟨o, kk b o hc q⟩) (fun _ _ q => q) (fun _ _ _ q => q) (fun b ps q => ⟨#[], by rw [q]; simp⟩) ?_ ?_ I.bare
  · intro b hb
    have hb : b = e ∨ b = it := by simpa using hb
    rcases hb with rfl | rfl
    · exact ⟨fe.2.2.2.1, fe.2.1, fe.2.2.2.2.1, fe.2.2.2.2.2⟩
    · exact ⟨fi.2.2.2.1, fi.2.1, fi.2.2.2.2.1, fi.2.2.2.2.2⟩
  · rintro m ⟨o, es, ep, ho, r⟩
    exact ⟨o, es, ep, k _ o (Ne.symm fe.2.1) (Ne.symm fi.2.1) ho, r⟩
  · intro b u q
    refine (I.hok b u q).stay (fun c v hc z => ?_) (fun _ z => z) fun _ _ z => z
    have : c ≠ e ∧ c ≠ it := by
      rcases hc with y | y
      · rw [y]; exact ne b u q
      · exact ne c _ y
    exact k c v this.1 this.2 z
end
def Ite (K : PySem.W.Frag) (a : Addr) : It :=
  ⟨fun i H => ∃ xs x, SqL K H a xs ∧ xs[i]? = some x, fun i H x H' => ∃ p y, H p = none ∧ x = .ref p ∧ H' = upd H p (.tup [.int i, y]) ∧ ∀ xs, SqL K H a xs → xs[i]? = some y, fun i H => ∃ xs, SqL K H a xs ∧ xs.length ≤ i⟩
theorem turn_enum {P : Program} {w : World} {K : PySem.W.Frag} {es : List Expr} {x1 : Nat} {tp : Pos} {a e it : Addr} (hne : e ≠ it) :
    Turn P w K (.Tuple es x1 tp) (Ite K a) [e, it] e (fun i h => ∃ old, IsEnum h e it (i : Int) old ∧ h.IsListIter it a i) where
  mem := by simp
  obj := by
    rintro i h ⟨old, he, o, e1, c, d⟩ b hb
    have hb : b = e ∨ b = it := by simpa using hb
    rcases hb with rfl | rfl
    · exact ⟨_, he, fun v z => by cases z⟩
    · exact ⟨o, e1, fun v z => by rw [d] at z; cases z⟩
  keep := by
    rintro i h h' ⟨old, he, st⟩ k
    exact ⟨old, k e (by simp) _ he, st.at fun o q => k it (by simp) o q⟩
  item := by
    intro X hP hw hK hc i pins s σ H E I hf st hg
    subst hP hw hK
    obtain ⟨old, he, hit⟩ := st
    obtain ⟨xs, x, hq, hx⟩ := hg
    obtain ⟨its, rv, p, hz⟩ := I.list hq
    obtain ⟨u, hu, ru⟩ := rv.get hx
    have fe := hf e (by simp)
    have fi := hf it (by simp)
    refine wpAny_pyNext_enum_item he hit p.isList (x := u) (by simpa using hu) hne fun h1 heo hit1 ht1 hz1 hk1 => ⟨_, rfl, ?_⟩
    refine wpAny_letOwnedTupleGo_enum heo fun h2 he2 hs2 => ?_
    replace hs2 : Heap.SameBut e h1 h2 := hs2
    have hel : e < s.heap.objs.size := Heap.lt_size he
    have hil : it < s.heap.objs.size := by obtain ⟨o, ho, _⟩ := hit; exact Heap.lt_size ho
    have hp0 : H s.heap.objs.size = none := I.hok.fresh (Nat.le_refl _)
    have ht2 : h2.get? s.heap.objs.size = some { cls := .type "tuple", data := .seq #[.int i s.toks, u] } := (hs2.2 _ (Nat.ne_of_gt hel)).trans ht1
    have I1 : Inv X pins σ (upd H s.heap.objs.size (.tup [.int i, x])) { s with heap := s.heap.push { cls := .type "tuple", data := .seq #[.int i s.toks, u] }, toks := s.toks + 1 } :=
      I.laid (fun b v q => Heap.get?_push_of_some _ q) (Nat.le_refl _) ⟨by show 2 ≤ sizeLine; decide, [.int i s.toks, u], .cons ⟨_, rfl⟩ (.cons ru .nil), ⟨_, Heap.get?_push_size _ rfl, rfl, _, rfl⟩⟩
    have off : ∀ b, b < s.heap.objs.size → FpOk X pins H b → FpOk X pins (upd H s.heap.objs.size (.tup [.int i, x])) b := fun b hb f => ⟨by rw [upd_ne (Nat.ne_of_lt hb)]; exact f.1, f.2⟩
    have I2 : Inv X pins σ (upd H s.heap.objs.size (.tup [.int i, x])) { s with heap := h2, toks := s.toks + 1 } := turned2 (s := { s with heap := s.heap.push { cls := .type "tuple", data := .seq #[.int i s.toks, u] }, toks := s.toks + 1 }) (t' := s.toks + 1) I1 (fun b o n1 n2 q => by
      replace q : (s.heap.push { cls := .type "tuple", data := .seq #[.int i s.toks, u] }).get? b = some o := q
      rcases Heap.get?_push_cases q with ⟨z, z'⟩ | q'
      · subst z; subst z'; exact ht2
      · exact (hs2.2 b n1).trans (hk1 b o n1 n2 q')) (off e hel fe) (off it hil fi)
    refine ⟨.ref s.heap.objs.size, _, I2, rfl, ⟨_, x, hp0, rfl, rfl, fun ys hy => by rw [I.list_inj hy hq]; exact hx⟩, ⟨u, ?_, ?_⟩, fun b hb => ?_⟩
    · have e1 : ((i + 1 : Nat) : Int) = (i : Int) + 1 := by push_cast; rfl
      rw [e1]; exact he2
    · exact hit1.extBut hs2.extBut (Ne.symm hne)
    · have hb : b = e ∨ b = it := by simpa using hb
      rcases hb with rfl | rfl
      · exact (off _ hel fe).1
      · exact (off _ hil fi).1
  done := by
    intro X hP hw hK hc i pins s σ H E I hf st hg
    subst hP hw hK
    obtain ⟨old, he, hit⟩ := st
    obtain ⟨xs, hq, hx⟩ := hg
    obtain ⟨its, rv, p, hz⟩ := I.list hq
    have hl := rv.length
    obtain ⟨f0, f1, f2, f3, f4, f5⟩ := hf it (by simp)
    exact wpAny_pyNext_enum_end (I.ok.hd hc) he hit p.isList (by simp; omega) fun h' eb => ⟨rfl, I.turned (t' := s.toks) (fun b o hb q => eb b o hb q) f0 f1 f3 f4 f5⟩
  self := fun _ _ _ _ _ ⟨_, he, _⟩ h => wpAny_pyIter_enum he h
section
variable {X : Cx}
def iEnu (K : PySem.W.Frag) (ta : TA) : TI := fun σ H R => ta σ H fun vs H1 => ∃ a, vs = [.ref a] ∧ (∃ xs, SqL K H1 a xs) ∧ R (Ite K a) H1
theorem pi_enu {l : Expr} {ta : TA} {p pos tp : Pos} {es : List Expr} {x1 : Nat} (hg : Gl X "enumerate") (hm : X.mg "enumerate" = none) (ha : PA X [l] ta) (hs : starEach [l] X.env = [(false, eval l X.env)] := by rfl) :
    PI X (.Tuple es x1 tp) (.Call (.Name "enumerate" p) [l] [] pos) (iEnu X.K ta) := by
  intro pins s σ H R I h
  refine Call_ (ld_blt I hg hm boot_enumerate (PyProof.Rows.callWith_type1 (thn (ha pos pins s σ H _ I h) fun us s1 ⟨vs, H1, I1, r1, q1⟩ => ?_) hs rfl))
  obtain ⟨a, rfl, ⟨xs, hq⟩, q⟩ := q1
  cases r1 with
  | cons r rr =>
    cases rr
    cases r
    obtain ⟨its, rv, pL, hz⟩ := I1.list hq
    refine call_enumerate_list pL.isList fun h' he hit hz' hk => ?_
    refine wpAny_pyIter_enum he ?_
    refine ⟨_, [s1.heap.objs.size + 1, s1.heap.objs.size], _, _, H1, rfl, I1.kept (t' := s1.toks) hk, turn_enum (e := s1.heap.objs.size + 1) (it := s1.heap.objs.size) (Nat.succ_ne_self _), ⟨.none, he, hit⟩, fun b hb => ?_, q⟩
    have hb : b = s1.heap.objs.size + 1 ∨ b = s1.heap.objs.size := by simpa using hb
    rcases hb with rfl | rfl
    · exact I1.fpOk (by omega) (I1.hok.fresh (by omega))
    · exact I1.fpOk (Nat.le_refl _) (I1.hok.fresh (Nat.le_refl _))
end
theorem for_enu {K : PySem.W.Frag} {a : Addr} {xs : List V} {g : TG} {tb : TS} {D : Ends} {σ : L2.St} {H : Hp} (Pv : Nat → L2.St → Hp → Prop) (h0 : Pv 0 σ H) (hl : ∀ i σ H, i ≤ xs.length → Pv i σ H → SqL K H a xs)
    (hs : ∀ i x p σ H, xs[i]? = some x → Pv i σ H → H p = none → g (.ref p) σ (upd H p (.tup [.int i, x])) fun σ2 H2 => tb { D with nx := Pv (i + 1), ct := Pv (i + 1), bk := D.nx } σ2 H2) (hd : ∀ σ H, Pv xs.length σ H → D.nx σ H) :
    ∃ W : Nat → Nat → L2.St → Hp → Prop, (∃ m, W 0 m σ H) ∧ ∀ i m σ H, W i m σ H →
      ((Ite K a).stop i H ∧ D.nx σ H) ∨ ((Ite K a).go i H ∧ ∃ N : L2.St → Hp → Prop, (∀ σ' H', N σ' H' → ∃ m', m' < m ∧ W (i + 1) m' σ' H') ∧ ∀ x H', (Ite K a).yld i H x H' → g x σ H' fun σ2 H2 => tb { D with nx := N, ct := N, bk := D.nx } σ2 H2) := by
  refine ⟨fun i m σ H => m = xs.length - i ∧ i ≤ xs.length ∧ Pv i σ H, ⟨xs.length, by simp, Nat.zero_le _, h0⟩, ?_⟩
  rintro i m σ H ⟨rfl, hi, p⟩
  have q := hl i σ H hi p
  by_cases hlt : i < xs.length
  · refine .inr ⟨⟨xs, xs[i], q, by simp [hlt]⟩, Pv (i + 1), fun σ' H' p' => ⟨xs.length - (i + 1), by omega, rfl, hlt, p'⟩, fun x H' y => ?_⟩
    obtain ⟨b, z, hb, rfl, rfl, y⟩ := y
    exact hs i z b σ H (y xs q) p hb
  · have e : i = xs.length := by omega
    subst e
    exact .inl ⟨⟨xs, q, Nat.le_refl _⟩, hd σ H p⟩
end L3

/-! for over a dict's keys: the dict is held as it stands. -/
namespace L3
open PySem PySem.Spec PyProof.Rows L2
section
variable {X : Cx} {pins : List (Addr × Obj)} {σ : List (Option V)} {H : Hp} {s : Shared}
end
section
variable {X : Cx} {tg : Expr}
end
end L3

/-! sorted of a list of fewer than 64 numbers. -/
namespace L3
open PySem PySem.Spec PyProof.Rows L2
theorem ints_of_vals : ∀ {vs : List Value} {ns : List Int}, Vals (ns.map V.int) vs → IntsAre vs ns
  | _, [], r => by cases r; exact .nil
  | _, n :: ns, r => by
    cases r with
    | cons r1 r2 =>
      obtain ⟨t, rfl⟩ := r1
      exact .cons n t (ints_of_vals r2)
theorem vals_of_ints : ∀ {vs : List Value} {ns : List Int}, IntsAre vs ns → Vals (ns.map V.int) vs
  | _, _, .nil => .nil
  | _, _, .cons n t r => .cons ⟨t, rfl⟩ (vals_of_ints r)
section
variable {X : Cx}
end
end L3

/-! sorted of a dict whose keys are fewer than 64 numbers. -/
namespace L3
open PySem PySem.Spec PyProof.Rows L2
section
variable {prog : Program} {w : World} {A : Around} {E : Value → Shared → Prop} {s : Shared} {d : Addr} {es : Array DictEntry} {p : Nat}
theorem rd_sortedI {Q : Value → Shared → Prop} {ns : List Int} (hh : A.handled = none) (lo : (d == sysModules) = false) (r : RawD d es p s.heap) (z : es.size < 64) (hs : ∀ vs : List Value, vs.length = es.size → (∀ (j : Nat) (v : Value), vs[j]? = some v → ∃ e, es[j]? = some e ∧ v = e.key) → IntsAre vs ns)
    (q : ∀ (D : Addr) (h' : Heap) (tk : Nat) (out : List Value) (ns' : List Int) (c : Nat), s.heap.objs.size ≤ D → (∀ b o, s.heap.get? b = some o → h'.get? b = some o) → h'.get? D = some (seqObj "list" out.toArray c) → IntsAre out ns' → ns'.Perm ns → ns'.Pairwise (· ≤ ·) → Q (.ref D) { s with heap := h', toks := tk }) :
    wpAny (model prog w) A (call (.builtin "sorted") [.ref d]) Q E s := by
  have hn : es.size ≤ sizeLine := Nat.le_trans (Nat.le_of_lt z) (by decide)
  refine Calls.call_function_entry kind_sorted plain_sorted entry_sorted (args_sorted1 _) ?_
  unfold Builtin.«sorted»
  refine wpAny_bind (m := checkCount "sorted" 1 1 _) (wpAny_pure ?_)
  refine wpAny_bind (rd_collect (A := A.in1) hh lo r hn fun h' tk acc hsz hk hacc => ?_)
  have hl : acc.toList.length = es.size := by rw [Array.length_toList]; exact hacc.1
  have hS : IntsAre acc.toList ns := hs _ hl fun j v e => hacc.2 j v (by rw [← Array.getElem?_toList]; exact e)
  refine wpAny_bind (wpAny_newList ?_ (by rw [hl]; exact hn))
  have hoL : (h'.push (seqObj "list" acc.toList.toArray 0)).get? h'.objs.size = some (seqObj "list" acc.toList.toArray 0) := Heap.get?_push_size _ rfl
  refine wpAny_bind (wpAny_holding (wpAny_call_entry slot_list_sort ⟨_, hoL, rfl⟩ entry_list_sort (list_sort_tree hoL hS (by rw [hl]; exact z) fun out ns' a1 a2 a3 => ⟨_, rfl, ?_⟩) (args_list_sort _)))
  obtain ⟨c, hc⟩ := sortedHeap_at (out := out) hoL
  refine wpAny_pure ⟨_, rfl, q h'.objs.size _ tk out.toList ns' c (Nat.le_of_lt hsz) (fun b o e => ?_) ?_ a1 a2 a3⟩
  · have e' := hk b o e
    have hlt := Heap.lt_size e'
    rw [sortedHeap_old (Nat.ne_of_lt hlt) (by rw [size_push']; exact Nat.lt_succ_of_lt hlt)]
    exact Heap.get?_push_of_some _ e'
  · rw [Array.toArray_toList]; exact hc
end
section
variable {X : Cx}
def rSortN : List V → Hp → VK → Prop := fun xs H Q => ∃ (a : Addr) (kvs : List (Key × V)) (ns : List Int), xs = [.ref a] ∧ H a = some (.dK kvs) ∧ ns.length < 64 ∧ kvs.map (fun kv => kV kv.1) = ns.map V.int ∧ ∀ (l : Addr) (ns' : List Int), ns'.Perm ns → ns'.Pairwise (· ≤ ·) → H l = none → Q (.ref l) (upd H l (.lst (ns'.map V.int)))
theorem call_sorted_n (hc : X.calm = true) : CallR X (.builtin "sorted") rSortN := by
  intro pins s σ H xs us Q I r h
  obtain ⟨a, kvs, ns, rfl, e, z, hk, q⟩ := h
  obtain ⟨u, rfl, ru⟩ := vals1 r
  cases ru
  obtain ⟨_, lo, es, p, rr, hs, hr⟩ := raw_k I e
  have hkl : kvs.length = ns.length := by
    have h2 := congrArg List.length hk
    rw [List.length_map, List.length_map] at h2; exact h2
  refine rd_sortedI (ns := ns) (I.ok.hd hc) lo rr (by rw [hs, hkl]; exact z) (fun vs hl hv => ints_of_vals ?_) fun D h' tk out ns' c hD kp e' so hp hss => ?_
  · rw [← hk]
    refine vals_by (by rw [hl, List.length_map]; exact hs) fun i u y e1 e2 => ?_
    obtain ⟨x, ex, rfl⟩ := hv i u e1
    rw [List.getElem?_map] at e2
    cases hi : kvs[i]? with
    | none => rw [hi] at e2; cases e2
    | some kv => rw [hi] at e2; cases e2; exact hr i x kv ex hi
  · have hn : H D = none := I.hok.fresh hD
    exact ⟨.ref D, _, I.laid (t' := tk) (o := .lst (ns'.map V.int)) kp hD ⟨by rw [List.length_map, hp.length_eq]; exact Nat.le_trans (Nat.le_of_lt z) (by decide), out, c, vals_of_ints so, e'⟩, rfl, q D ns' hp hss hn⟩
end
end L3

/-! for over d.items(), with a pair of names as the target: the dict is held as it stands. -/
namespace L3
open PySem PySem.Spec PyProof.Rows L2
section
variable {X : Cx}
end
end L3

/-! The pairs of a dict of whatever keys, walked: d.items() of a dict with tuples as keys; comprehensions over pairs. -/
namespace L3
open PySem PySem.Spec PyProof.Rows L2 PySem.W
section
variable {prog : Program} {w : World} {A : Around} {E : Value → Shared → Prop} {s : Shared} {d it : Addr} {es : Array DictEntry} {p i : Nat}
end
section
variable {X : Cx} {pins : List (Addr × Obj)} {σ : List (Option V)} {H : Hp} {s : Shared}
end
def Itt (d : Addr) (o : Obj) : It :=
  ⟨fun i H => ∃ kvs kv, H d = some (.frz o (.dT kvs)) ∧ kvs[i]? = some kv, fun i H x H' => ∃ p b k y, H p = none ∧ x = .ref p ∧ H b = some (.tup (k.map kV)) ∧ H' = upd H p (.tup [.ref b, y]) ∧ ∀ kvs, H d = some (.frz o (.dT kvs)) → kvs[i]? = some (k, y), fun i H => ∃ kvs, H d = some (.frz o (.dT kvs)) ∧ kvs.length ≤ i⟩
section
variable {X : Cx}
end
end L3

/-! dict(d) of a dict, and d != e of two dicts of texts. -/
namespace L3
open PySem PySem.Spec PyProof.Rows L2 PySem.W
section
variable {X : Cx}
end
end L3

/-! dict(l) of a list of pairs. -/
namespace L3
open PySem PySem.Spec PyProof.Rows L2 PySem.W
section
variable {prog : Program} {w : World} {A : Around} {E : Value → Shared → Prop} {s : Shared}
end
section
variable {prog : Program} {w : World} {κ : Type} [DecidableEq κ] {knd : KeyKind prog w κ} {A : Around} {E : Value → Shared → Prop} {s : Shared}
end
section
variable {X : Cx}
end
end L3

/-! isinstance of deep data. -/
namespace L3
open PySem PySem.Spec PyProof.Rows L2
def tyN : D → String
  | .non => "NoneType"
  | .bl _ => "bool"
  | .int _ => "int"
  | .str _ => "str"
  | .tup _ => "tuple"
  | .lst _ => "list"
def isT (d : D) (T : String) : Bool := match d with
  | .non => T == "NoneType"
  | .bl _ => T == "bool" || T == "int"
  | .int _ => T == "int"
  | .str _ => T == "str"
  | .tup _ => T == "tuple"
  | .lst _ => T == "list"
theorem kit_isT {K : PySem.W.Frag} (d : D) {T : String} (h : T = "tuple" ∨ T = "int" ∨ T = "bool" ∨ T = "str" ∨ T = "list") : PySem.W.kitOne K (.type (tyN d)) (.type T) = some (isT d T) := by
  rcases h with rfl | rfl | rfl | rfl | rfl <;> cases d <;> rfl
section
variable {X : Cx}
theorem call_isinstD : CallR X (.builtin "isinstance") (fun xs H Q => ∃ x d T, xs = [x, .ty T] ∧ Rep X.K H d x ∧ (T = "tuple" ∨ T = "int" ∨ T = "bool" ∨ T = "str" ∨ T = "list") ∧ Q (.bl (isT d T)) H) := by
  intro pins s σ H xs us Q I r h
  obtain ⟨x, d, T, rfl, rep, hT, q⟩ := h
  obtain ⟨u, w', rfl, rx, rt⟩ := vals2 r
  cases rt
  have k := kit_isT (K := X.K) d hT
  have fin : ∀ tk, EP X pins σ Q (.bool (isT d T)) { s with toks := tk } := fun tk => ⟨.bl (isT d T), H, I.tok _, rfl, q⟩
  cases d with
  | non => unfold Rep at rep; subst rep; exact isinst_ok I rx .non k fin
  | bl b => unfold Rep at rep; subst rep; exact isinst_ok I rx (.bl b) k fin
  | int i => unfold Rep at rep; subst rep; exact isinst_ok I rx (.int i) k fin
  | str y => unfold Rep at rep; subst rep; exact isinst_ok I rx (.str y) k fin
  | tup ds =>
    unfold Rep at rep
    obtain ⟨a, ys, rfl, hq, _⟩ := rep
    cases (show u = Value.ref a from rx)
    obtain ⟨its, _, p, _⟩ := I.tuple hq
    obtain ⟨o, h1, h2, _⟩ := p
    exact PySem.W.kia_one PySem.W.kitx_tuple I.kIn ⟨o, h1, h2⟩ k (fun z => nomatch z) fin
  | lst ds =>
    unfold Rep at rep
    obtain ⟨a, ys, rfl, hq, _⟩ := rep
    cases (show u = Value.ref a from rx)
    obtain ⟨its, _, p, _⟩ := I.list hq
    obtain ⟨o, h1, h2, _⟩ := p.isList
    exact PySem.W.kia_one PySem.W.kitx_list I.kIn ⟨o, h1, h2⟩ k (fun z => nomatch z) fin
end
end L3
namespace L3
open PySem PySem.Spec PyProof.Rows L2
section
variable {X : Cx}
end
end L3

/-! l.index(i) of a list of numbers. -/
namespace L3
open PySem PySem.Spec PyProof.Rows L2 PySem.W
section
variable {X : Cx}
def eqN (i : Int) : Value → Bool
  | .int k _ => k == i
  | _ => false
def rIndexI : V → List V → Hp → VK → Prop := fun x vs H Q => ∃ l, ∃ ns : List Int, ∃ i : Int, ∃ j : Nat, x = .ref l ∧ vs = [.int i] ∧ H l = some (.lst (ns.map V.int)) ∧ ns[j]? = some i ∧ (∀ m, m < j → ns[m]? ≠ some i) ∧ Q (.int j) H
theorem vals_ints {ns : List Int} : ∀ {its : List Value}, Vals (ns.map V.int) its → ∀ (m : Nat) (u : Value), its[m]? = some u → ∃ k t, u = .int k t ∧ ns[m]? = some k := by
  induction ns with
  | nil => intro its r m u e; cases r; simp at e
  | cons n ns ih =>
    intro its r m u e
    cases r with
    | cons r1 r2 =>
      obtain ⟨t, rfl⟩ := r1
      cases m with
      | zero => simp at e; exact ⟨n, t, e.symm, rfl⟩
      | succ m => exact ih r2 m u (by simpa using e)
theorem mt_index : MtM X "list.index" rIndexI := by
  intro pins s σ H x vs v us Q I rx rv h
  obtain ⟨l, ns, i, j, rfl, rfl, hl, hj, hno, q⟩ := h
  cases rx
  obtain ⟨u, rfl, ru⟩ := vals1 rv
  obtain ⟨tu, rfl⟩ := ru
  obtain ⟨z, its, n, r, hn, e⟩ := I.lstM hl
  have hlen : ns.length = its.length := by have := Paired.length r; rw [List.length_map] at this; exact this
  have hjl : j < ns.length := (List.getElem?_eq_some_iff.mp hj).1
  have at_ : ∀ m (hm : m < its.toArray.size), ∃ k t, its.toArray[m] = .int k t ∧ ns[m]? = some k := fun m hm => vals_ints r m _ (by simp at hm; simp [hm])
  refine call_meets PySem.F.slot_list_index ⟨_, e, rfl⟩ PySem.F.entry_list_index (PySem.F.args_list_index_2 _ _) (SeqAt.list_indexAt l its.toArray n none #[] (.int i tu) (eqN i) j (by simp; omega) (by have := sizeLine_eq; simp at z; omega) ?_ ?_) ⟨e, ?_, ⟨.int j, H, I.tok _, ⟨_, rfl⟩, q⟩⟩
  · obtain ⟨k, t, e1, e2⟩ := at_ j (by simp; omega)
    rw [e1]
    rw [hj] at e2
    cases e2
    exact beq_self_eq_true _
  · intro m hm hmj
    obtain ⟨k, t, e1, e2⟩ := at_ m hm
    rw [e1]
    refine beq_eq_false_iff_ne.mpr fun zz => hno m hmj ?_
    rw [e2, zz]
  · intro y hy
    obtain ⟨m, hm, rfl⟩ := Array.mem_iff_getElem.mp hy
    obtain ⟨k, t, e1, e2⟩ := at_ m hm
    rw [e1]
    exact SeqAt.EqAt.int_int k t i tu
end
theorem kBm {X : Cx} {K : PySem.W.Frag} {e : Expr} {T : String} {r : V → List V → Hp → VK → Prop} {to : TE} {t : TA} (h : PE X e (tBM X.K T r to t)) (q : X.K = K := by rfl) : PE X e (tBM K T r to t) := q ▸ h
end L3

/-! zip of a tuple and a list, walked with a pair of names. -/
namespace L3
open PySem PySem.Spec PyProof.Rows L2 PySem.W
section
variable {prog : Program} {w : World} {A : Around} {E : Value → Shared → Prop} {s : Shared}
structure Gv (prog : Program) (w : World) (it : Addr) (fp : List Addr) (xs : Array Value) (St : Nat → Heap → Prop) : Prop where
  keep : ∀ i h h', St i h → (∀ b ∈ fp, ∀ o, h.get? b = some o → h'.get? b = some o) → St i h'
  item : ∀ i x (s : Shared) (A : Around) (Q : Value → Shared → Prop) (E : Value → Shared → Prop), St i s.heap → xs[i]? = some x → (∀ h', St (i + 1) h' → Heap.SameBut it s.heap h' → Q x { s with heap := h' }) → wpAny (model prog w) A (Builtin.SmallTypes.nextOf (.ref it)) Q E s
  done : ∀ i (s : Shared) (A : Around) (Q : Value → Shared → Prop) (E : Value → Shared → Prop), A.handled = none → St i s.heap → xs[i]? = none → (∀ h' e, Heap.ExtBut it s.heap h' → (∃ o, h'.get? e = some o ∧ o.cls = .type "StopIteration") → E (.ref e) { s with heap := h' }) → wpAny (model prog w) A (Builtin.SmallTypes.nextOf (.ref it)) Q E s
theorem gv_list {it l : Addr} {xs : Array Value} (n : l ≠ it) : Gv prog w it [it, l] xs (fun i h => h.IsListIter it l i ∧ h.IsList l xs) where
  keep := fun i h h' ⟨⟨o, e, r⟩, ⟨u, f, q⟩⟩ k => ⟨⟨o, k it (by simp) o e, r⟩, ⟨u, k l (by simp) u f, q⟩⟩
  item := fun i x s A Q E st hx q => wpAny_nextOf_list_item st.1 st.2 hx fun h' st' sb => q h' ⟨st', st.2.extBut sb.extBut n⟩ sb
  done := fun i s A Q E hh st hx q => wpAny_nextOf_list_end hh st.1 st.2 hx fun h' e eb he => q h' e eb he
structure ZpA (z TI TO i1 i2 : Addr) (f1 f2 : List Addr) : Prop where
  TIz : TI ≠ z
  TOz : TO ≠ z
  TIO : TI ≠ TO
  TI1 : TI ≠ i1
  TI2 : TI ≠ i2
  m1 : i1 ∈ f1
  m2 : i2 ∈ f2
  a1 : ∀ b ∈ f1, b ≠ z ∧ b ≠ TO ∧ b ≠ i2
  a2 : ∀ b ∈ f2, b ≠ z ∧ b ≠ TO ∧ b ≠ i1
variable {z TI TO i1 i2 : Addr} {f1 f2 : List Addr} {xs ys : Array Value} {S1 S2 : Nat → Heap → Prop}
end
section
variable {X : Cx} {pins : List (Addr × Obj)} {σ : List (Option V)} {H : Hp} {s : Shared} {h' : Heap}
theorem turnedL {t' : Nat} {ch : List Addr} (I : Inv X pins σ H s) (k : ∀ b o, b ∉ ch → s.heap.get? b = some o → h'.get? b = some o) (f : ∀ b ∈ ch, FpOk X pins H b) : Inv X pins σ H { s with heap := h', toks := t' } := by
  have ne : ∀ b u, H b = some u → b ∉ ch := fun b u q z => by rw [(f b z).1] at q; cases q
  refine I.step (g' := s.gens) (d' := s.drawn) (ch := ch) (fun b hb => ⟨(f b hb).2.2.2.1, (f b hb).2.1, (f b hb).2.2.2.2.1, (f b hb).2.2.2.2.2⟩) (fun b o _ _ hc q _ => k b o hc q) (fun b o _ _ hc q _ => ⟨o.slots, k b o hc q⟩) (fun _ _ _ _ n => n)
    (fun b o hc q => ⟨o, k b o hc q⟩) (fun _ _ q => q) (fun _ _ _ q => q) (fun b ps q => ⟨#[], by rw [q]; simp⟩) ?_ ?_ I.bare
  · rintro m ⟨o, es, ep, ho, r⟩
    exact ⟨o, es, ep, k _ o (fun z => (f _ z).2.1 rfl) ho, r⟩
  · intro b u q
    refine (I.hok b u q).stay (fun c v hc z => k c v ?_ z) (fun _ z => z) fun _ _ z => z
    rcases hc with y | y
    · rw [y]; exact ne b u q
    · exact ne c _ y
end
section
variable {prog : Program} {w : World} {A : Around} {E : Value → Shared → Prop} {s : Shared}
end
section
variable {X : Cx}
end
end L3

/-! zip of a text and a list, walked with a pair of names. -/
namespace L3
open PySem PySem.Spec PyProof.Rows L2 PySem.W
section
variable {prog : Program} {w : World} {A : Around} {E : Value → Shared → Prop} {s : Shared}
structure Gw (prog : Program) (w : World) (it : Addr) (fp : List Addr) (g : Str) (St : Nat → Heap → Prop) : Prop where
  keep : ∀ i h h', St i h → (∀ b ∈ fp, ∀ o, h.get? b = some o → h'.get? b = some o) → St i h'
  item : ∀ i c (s : Shared) (A : Around) (Q : Value → Shared → Prop) (E : Value → Shared → Prop), St i s.heap → g.cps[i]? = some c → (∀ h' tk u, St (i + 1) h' → Heap.SameBut it s.heap h' → Q (.str ⟨#[c]⟩ u) { s with heap := h', toks := tk }) → wpAny (model prog w) A (Builtin.SmallTypes.nextOf (.ref it)) Q E s
  done : ∀ i (s : Shared) (A : Around) (Q : Value → Shared → Prop) (E : Value → Shared → Prop), A.handled = none → St i s.heap → g.cps[i]? = none → (∀ h' e, Heap.ExtBut it s.heap h' → (∃ o, h'.get? e = some o ∧ o.cls = .type "StopIteration") → E (.ref e) { s with heap := h' }) → wpAny (model prog w) A (Builtin.SmallTypes.nextOf (.ref it)) Q E s
theorem gw_str {it : Addr} {g : Str} {u0 : Tok} {ty : String} (hty : ty = "str_ascii_iterator" ∨ ty = "str_iterator") : Gw prog w it [it] g (fun i h => h.IsStrIter it ty g u0 i) where
  keep := fun i h h' ⟨o, e, r⟩ k => ⟨o, k it (by simp) o e, r⟩
  item := fun i c s A Q E st hx q => by
    rcases hty with rfl | rfl
    · exact wpAny_nextOf_ascii_item st hx fun h' st' sb => q h' _ _ st' sb
    · exact wpAny_nextOf_wide_item st hx fun h' st' sb => q h' _ _ st' sb
  done := fun i s A Q E hh st hx q => by
    rcases hty with rfl | rfl
    · exact wpAny_nextOf_ascii_end hh st hx fun h' e eb he => q h' e eb he
    · exact wpAny_nextOf_wide_end hh st hx fun h' e eb he => q h' e eb he
variable {z TI TO i1 i2 : Addr} {f1 f2 : List Addr} {g : Str} {ys : Array Value} {S1 S2 : Nat → Heap → Prop}
theorem zq_item {k : Nat} {c : Nat} {y a b : Value} {Q : Option Value → Shared → Prop} (G1 : Gw prog w i1 f1 g S1) (G2 : Gv prog w i2 f2 ys S2) (D : ZpA z TI TO i1 i2 f1 f2)
    (hz : IsZip s.heap z TI TO .none) (hI : IsPair s.heap TI (.ref i1) (.ref i2)) (hO : IsPair s.heap TO a b) (s1 : S1 k s.heap) (s2 : S2 k s.heap) (hx : g.cps[k]? = some c) (hy : ys[k]? = some y)
    (q : ∀ h' tk u, IsZip h' z TI TO (rawInt s.heap.objs.size) → IsPair h' TO (.str ⟨#[c]⟩ u) y → S1 (k + 1) h' → S2 (k + 1) h' → IsPair h' s.heap.objs.size (.str ⟨#[c]⟩ u) y → (∀ c o, c ≠ z → c ≠ TO → c ≠ i1 → c ≠ i2 → s.heap.get? c = some o → h'.get? c = some o) → Q (some (.ref s.heap.objs.size)) { s with heap := h', toks := tk }) :
    wpAny (model prog w) A (pyNext (.ref z)) Q E s := by
  have ty : s.TypeIs (.ref z) "zip" := ⟨_, hz, rfl⟩
  unfold pyNext
  refine wpAny_bind (wpAny_attempt (wpAny_callSpecial?_slot (name := Str.ofString "__next__") ty PySem.F.slot_zip_next (wpAny_call_entry PySem.F.slot_zip_next ty PySem.F.entry_zip_next ?_ (PySem.F.args_zip_next_1 _))))
  unfold Builtin.«zip.__next__»
  refine wpAny_bind (wpAny_pure ?_)
  show wpAny _ _ (field (Value.ref z) 2 >>= fun _ => _) _ _ _
  refine wpAny_bind (wpAny_field hz rfl (x := .bool false) rfl ?_)
  show wpAny _ _ (field (Value.ref z) 3 >>= fun _ => _) _ _ _
  refine wpAny_bind (wpAny_field hz rfl (x := .ref TI) rfl (wpAny_bind (wpAny_seqItems hI rfl ?_)))
  show wpAny _ _ (Builtin.SmallTypes.ownedTupleIsFree (Value.ref z) >>= fun _ => _) _ _ _
  unfold Builtin.SmallTypes.ownedTupleIsFree
  refine wpAny_bind (wpAny_bind (wpAny_field hz rfl (x := .none) rfl (wpAny_pure ?_)))
  simp only [if_true]
  refine wpAny_bind (wpAny_rule (wpAny_bind (wpAny_field hz rfl (x := .ref TO) rfl ?_)))
  refine wpAny_bind (wpAny_setField_rec hz (by simp) fun k1 z1 u1 => ?_)
  replace z1 : IsZip k1 z TI TO .ellipsis := z1
  replace u1 : Heap.SameBut z s.heap k1 := u1
  refine wpAny_bind ?_
  simp only [List.zipIdx_cons, List.zipIdx_nil, List.forIn_cons, List.forIn_nil]
  have p1 : S1 k k1 := G1.keep _ _ _ s1 fun b hb o e => u1.extBut b o (D.a1 b hb).1 e
  have p2 : S2 k k1 := G2.keep _ _ _ s2 fun b hb o e => u1.extBut b o (D.a2 b hb).1 e
  have i1z := (D.a1 _ D.m1).1
  have i1O := (D.a1 _ D.m1).2.1
  have i12 := (D.a1 _ D.m1).2.2
  have i2z := (D.a2 _ D.m2).1
  have i2O := (D.a2 _ D.m2).2.1
  refine wpAny_bind (wpAny_bind (wpAny_onRaise ?_))
  show wpAny _ _ (Builtin.SmallTypes.nextOf (Value.ref i1) >>= fun _ => _) _ _ _
  refine wpAny_bind (G1.item k c { s with heap := k1 } _ _ _ p1 hx fun k2 tk xu q1 u2 => wpAny_pure ?_)
  replace u2 : Heap.SameBut i1 k1 k2 := u2
  obtain ⟨x, ex⟩ : ∃ x : Value, x = .str ⟨#[c]⟩ xu := ⟨_, rfl⟩
  rw [← ex]
  have t2 : IsPair k2 TO a b := u2.extBut _ _ i1O.symm (u1.extBut _ _ D.TOz hO)
  have q2 : S2 k k2 := G2.keep _ _ _ p2 fun b hb o e => u2.extBut b o (D.a2 b hb).2.2 e
  refine wpAny_bind (wpAny_seqItems t2 rfl (wpAny_bind (wpAny_updateSeq_pair t2 fun k3 t3 u3 => wpAny_bind (wpAny_letGo (wpAny_pure ?_)))))
  replace t3 : IsPair k3 TO x b := t3
  replace u3 : Heap.SameBut TO k2 k3 := u3
  have r1 : S1 (k + 1) k3 := G1.keep _ _ _ q1 fun b hb o e => u3.extBut b o (D.a1 b hb).2.1 e
  have r2 : S2 k k3 := G2.keep _ _ _ q2 fun b hb o e => u3.extBut b o (D.a2 b hb).2.1 e
  refine wpAny_bind (wpAny_bind (wpAny_onRaise ?_))
  show wpAny _ _ (Builtin.SmallTypes.nextOf (Value.ref i2) >>= fun _ => _) _ _ _
  refine wpAny_bind (G2.item k y { s with heap := k3, toks := tk } _ _ _ r2 hy fun k4 v2 u4 => wpAny_pure ?_)
  replace u4 : Heap.SameBut i2 k3 k4 := u4
  have t4 : IsPair k4 TO x b := u4.extBut _ _ i2O.symm t3
  have v1 : S1 (k + 1) k4 := G1.keep _ _ _ r1 fun b hb o e => u4.extBut b o (D.a1 b hb).2.2 e
  refine wpAny_bind (wpAny_seqItems t4 rfl (wpAny_bind (wpAny_updateSeq_pair t4 fun k5 t5 u5 => wpAny_bind (wpAny_letGo (wpAny_pure (wpAny_pure ?_))))))
  replace t5 : IsPair k5 TO x y := t5
  replace u5 : Heap.SameBut TO k4 k5 := u5
  have w1 : S1 (k + 1) k5 := G1.keep _ _ _ v1 fun b hb o e => u5.extBut b o (D.a1 b hb).2.1 e
  have w2 : S2 (k + 1) k5 := G2.keep _ _ _ v2 fun b hb o e => u5.extBut b o (D.a2 b hb).2.1 e
  have z5 : IsZip k5 z TI TO .ellipsis := u5.extBut _ _ D.TOz.symm (u4.extBut _ _ i2z.symm (u3.extBut _ _ D.TOz.symm (u2.extBut _ _ i1z.symm z1)))
  have sz : k5.objs.size = s.heap.objs.size := by rw [u5.1, u4.1, u3.1, u2.1, u1.1]
  have g5 : ∀ c o, c ≠ z → c ≠ TO → c ≠ i1 → c ≠ i2 → s.heap.get? c = some o → k5.get? c = some o := fun c o c1 c2 c3 c4 e => u5.extBut _ _ c2 (u4.extBut _ _ c4 (u3.extBut _ _ c2 (u2.extBut _ _ c3 (u1.extBut _ _ c1 e))))
  refine wpAny_bind (wpAny_seqItems t5 rfl (wpAny_bind (wpAny_newTuple ?_)))
  show wpAny _ _ (Builtin.SmallTypes.ownedTupleHandOut (Value.ref z) (Value.ref k5.objs.size) >>= fun _ => _) _ _ _
  unfold Builtin.SmallTypes.ownedTupleHandOut
  have z6 : IsZip (k5.push { cls := .type "tuple", data := .seq #[x, y] }) z TI TO .ellipsis := Heap.get?_push_of_some _ z5
  refine wpAny_bind (wpAny_bind (wpAny_setField_rec z6 (by simp) fun k7 z7 u7 => ?_))
  replace z7 : IsZip k7 z TI TO (rawInt k5.objs.size) := z7
  refine wpAny_setField_rec z7 (by simp) fun k8 z8 u8 => ?_
  replace z8 : IsZip k8 z TI TO (rawInt k5.objs.size) := z8
  have up : ∀ c o, c ≠ z → k5.get? c = some o → k8.get? c = some o := fun c o c1 e => u8.extBut _ _ c1 (u7.extBut _ _ c1 (Heap.get?_push_of_some _ e))
  have lt : z < k5.objs.size := Heap.lt_size z5
  have t8 : IsPair k8 k5.objs.size x y := u8.extBut _ _ (Nat.ne_of_gt lt) (u7.extBut _ _ (Nat.ne_of_gt lt) (Heap.get?_push_size _ rfl))
  rw [sz] at z8 t8
  refine wpAny_pure ⟨_, rfl, wpAny_pure ?_⟩
  show Q (some (.ref k5.objs.size)) _
  rw [sz]
  rw [ex] at t5 t8
  exact q k8 tk xu z8 (up _ _ D.TOz t5) (G1.keep _ _ _ w1 fun b hb o e => up b o (D.a1 b hb).1 e) (G2.keep _ _ _ w2 fun b hb o e => up b o (D.a2 b hb).1 e) t8 fun c o c1 c2 c3 c4 e => up c o c1 (g5 c o c1 c2 c3 c4 e)
theorem zq_end {k : Nat} {a b : Value} {Q : Option Value → Shared → Prop} (hh : A.handled = none) (G1 : Gw prog w i1 f1 g S1) (G2 : Gv prog w i2 f2 ys S2) (D : ZpA z TI TO i1 i2 f1 f2)
    (hz : IsZip s.heap z TI TO .none) (hI : IsPair s.heap TI (.ref i1) (.ref i2)) (hO : IsPair s.heap TO a b) (s1 : S1 k s.heap) (s2 : S2 k s.heap) (hx : g.cps[k]? = none)
    (q : ∀ h', (∀ c o, c ≠ z → c ≠ TO → c ≠ i1 → c ≠ i2 → s.heap.get? c = some o → h'.get? c = some o) → Q none { s with heap := h' }) :
    wpAny (model prog w) A (pyNext (.ref z)) Q E s := by
  have ty : s.TypeIs (.ref z) "zip" := ⟨_, hz, rfl⟩
  unfold pyNext
  refine wpAny_bind (wpAny_attempt (wpAny_callSpecial?_slot (name := Str.ofString "__next__") ty PySem.F.slot_zip_next (wpAny_call_entry PySem.F.slot_zip_next ty PySem.F.entry_zip_next ?_ (PySem.F.args_zip_next_1 _))))
  unfold Builtin.«zip.__next__»
  refine wpAny_bind (wpAny_pure ?_)
  show wpAny _ _ (field (Value.ref z) 2 >>= fun _ => _) _ _ _
  refine wpAny_bind (wpAny_field hz rfl (x := .bool false) rfl ?_)
  show wpAny _ _ (field (Value.ref z) 3 >>= fun _ => _) _ _ _
  refine wpAny_bind (wpAny_field hz rfl (x := .ref TI) rfl (wpAny_bind (wpAny_seqItems hI rfl ?_)))
  show wpAny _ _ (Builtin.SmallTypes.ownedTupleIsFree (Value.ref z) >>= fun _ => _) _ _ _
  unfold Builtin.SmallTypes.ownedTupleIsFree
  refine wpAny_bind (wpAny_bind (wpAny_field hz rfl (x := .none) rfl (wpAny_pure ?_)))
  simp only [if_true]
  refine wpAny_bind (wpAny_rule (wpAny_bind (wpAny_field hz rfl (x := .ref TO) rfl ?_)))
  refine wpAny_bind (wpAny_setField_rec hz (by simp) fun k1 z1 u1 => ?_)
  replace z1 : IsZip k1 z TI TO .ellipsis := z1
  replace u1 : Heap.SameBut z s.heap k1 := u1
  refine wpAny_bind ?_
  simp only [List.zipIdx_cons, List.zipIdx_nil, List.forIn_cons, List.forIn_nil]
  have p1 : S1 k k1 := G1.keep _ _ _ s1 fun b hb o e => u1.extBut b o (D.a1 b hb).1 e
  refine wpAny_bind (wpAny_bind (wpAny_onRaise ?_))
  show wpAny _ _ (Builtin.SmallTypes.nextOf (Value.ref i1) >>= fun _ => _) _ _ _
  refine wpAny_bind (G1.done k { s with heap := k1 } _ _ _ hh p1 hx fun k2 e u2 he => ?_)
  obtain ⟨oe, h1, h2⟩ := he
  replace u2 : Heap.ExtBut i1 k1 k2 := u2
  have z2 : IsZip k2 z TI TO .ellipsis := u2 _ _ (D.a1 _ D.m1).1.symm z1
  have nez : e ≠ z := fun c => by subst c; rw [z2] at h1; cases h1; simp at h2
  refine wpAny_setField_rec z2 (by simp) fun k3 z3 u3 => ?_
  refine wpAny_bind (wpAny_isInstance (b := true) (T := "StopIteration") ⟨oe, u3.extBut _ _ nez h1, h2⟩ isSubtype_stop ?_)
  exact wpAny_pure (q _ fun c o c1 _ c3 _ w => u3.extBut _ _ c1 (u2 _ _ c3 (u1.extBut _ _ c1 w)))
end
def Itq (K : PySem.W.Frag) (g : Str) (l : Addr) : It :=
  ⟨fun i H => ∃ ys y, SqL K H l ys ∧ i < g.cps.size ∧ ys[i]? = some y, fun i H v H' => ∃ p c y, H p = none ∧ v = .ref p ∧ H' = upd H p (.tup [.str ⟨#[c]⟩, y]) ∧ g.cps[i]? = some c ∧ ∀ ys, SqL K H l ys → ys[i]? = some y, fun i H => ∃ ys, SqL K H l ys ∧ g.cps.size ≤ i⟩
theorem turn_zst {P : Program} {w : World} {K : PySem.W.Frag} {es : List Expr} {x1 : Nat} {tp : Pos} {g : Str} {u0 : Tok} {ty : String} (hty : ty = "str_ascii_iterator" ∨ ty = "str_iterator") {l z TI TO i1 i2 : Addr} (D : ZpA z TI TO i1 i2 [i1] [i2, l]) (n2 : l ≠ i2) :
    Turn P w K (.Tuple es x1 tp) (Itq K g l) [z, TI, TO, i1, i2] z (fun i h => IsZip h z TI TO .none ∧ IsPair h TI (.ref i1) (.ref i2) ∧ (∃ a b, IsPair h TO a b) ∧ h.IsStrIter i1 ty g u0 i ∧ h.IsListIter i2 l i) where
  mem := by simp
  obj := by
    rintro i h ⟨hz, hI, ⟨a, b, hO⟩, ⟨o1, e1, c1, d1⟩, ⟨o2, e2, c2, d2⟩⟩ c hc
    simp only [List.mem_cons, List.not_mem_nil, or_false] at hc
    rcases hc with rfl | rfl | rfl | rfl | rfl
    · exact ⟨_, hz, fun v z => by cases z⟩
    · exact ⟨_, hI, fun v z => by cases z⟩
    · exact ⟨_, hO, fun v z => by cases z⟩
    · exact ⟨_, e1, fun v z => by rw [d1] at z; cases z⟩
    · exact ⟨_, e2, fun v z => by rw [d2] at z; cases z⟩
  keep := by
    rintro i h h' ⟨hz, hI, ⟨a, b, hO⟩, ⟨o1, e1, r1⟩, ⟨o2, e2, r2⟩⟩ k
    exact ⟨k z (by simp) _ hz, k TI (by simp) _ hI, ⟨a, b, k TO (by simp) _ hO⟩, ⟨o1, k i1 (by simp) _ e1, r1⟩, ⟨o2, k i2 (by simp) _ e2, r2⟩⟩
  item := by
    intro X hP hw hK hc i pins s σ H E I hf st hg
    subst hP hw hK
    obtain ⟨hz, hI, ⟨a, b, hO⟩, h1, h2⟩ := st
    obtain ⟨ys, y, hL, hx, hy⟩ := hg
    have hcx : g.cps[i]? = some g.cps[i] := Array.getElem?_eq_getElem hx
    obtain ⟨c0, ec0⟩ : ∃ c : Nat, c = g.cps[i] := ⟨_, rfl⟩
    rw [← ec0] at hcx
    obtain ⟨jts, rw', pL, hz2⟩ := I.list hL
    obtain ⟨v, hv, rv2⟩ := rw'.get hy
    have i1z := (D.a1 _ D.m1).1
    have i1O := (D.a1 _ D.m1).2.1
    have i2z := (D.a2 _ D.m2).1
    have i2O := (D.a2 _ D.m2).2.1
    refine zq_item (gw_str hty) (gv_list (xs := jts.toArray) n2) D hz hI hO h1 ⟨h2, pL.isList⟩ (y := v) hcx (by simpa using hv) fun k1 tk xu z1 o1 s1 s2 p1 g1 => ⟨_, rfl, ?_⟩
    refine wpAny_letOwnedTupleGo_zip z1 fun k2 z2 u2 => ?_
    replace u2 : Heap.SameBut z k1 k2 := u2
    have lz : z < s.heap.objs.size := Heap.lt_size hz
    have hp0 : H s.heap.objs.size = none := I.hok.fresh (Nat.le_refl _)
    have p2 : IsPair k2 s.heap.objs.size (.str ⟨#[c0]⟩ xu) v := u2.extBut _ _ (Nat.ne_of_gt lz) p1
    have I1 : Inv X pins σ (upd H s.heap.objs.size (.tup [.str ⟨#[c0]⟩, y])) { s with heap := s.heap.push { cls := .type "tuple", data := .seq #[.str ⟨#[c0]⟩ xu, v] } } :=
      I.laid (t' := s.toks) (fun b v q => Heap.get?_push_of_some _ q) (Nat.le_refl _) ⟨by show 2 ≤ sizeLine; decide, [.str ⟨#[c0]⟩ xu, v], .cons ⟨xu, rfl⟩ (.cons rv2 .nil), ⟨_, Heap.get?_push_size _ rfl, rfl, _, rfl⟩⟩
    have lt : ∀ c ∈ [z, TI, TO, i1, i2], c < s.heap.objs.size := fun c hc => by
      simp only [List.mem_cons, List.not_mem_nil, or_false] at hc
      obtain ⟨o1, e1, _⟩ := h1
      obtain ⟨o2, e2, _⟩ := h2
      rcases hc with rfl | rfl | rfl | rfl | rfl
      · exact lz
      · exact Heap.lt_size hI
      · exact Heap.lt_size hO
      · exact Heap.lt_size e1
      · exact Heap.lt_size e2
    have off : ∀ c ∈ [z, TI, TO, i1, i2], FpOk X pins (upd H s.heap.objs.size (.tup [.str ⟨#[c0]⟩, y])) c := fun c hc => ⟨by rw [upd_ne (Nat.ne_of_lt (lt c hc))]; exact (hf c hc).1, (hf c hc).2⟩
    have I2 : Inv X pins σ (upd H s.heap.objs.size (.tup [.str ⟨#[c0]⟩, y])) { s with heap := k2, toks := tk } := turnedL (s := { s with heap := s.heap.push { cls := .type "tuple", data := .seq #[.str ⟨#[c0]⟩ xu, v] } }) (t' := tk) (ch := [z, TI, TO, i1, i2]) I1 (fun c o nc q => by
      simp only [List.mem_cons, List.not_mem_nil, or_false, not_or] at nc
      replace q : (s.heap.push { cls := .type "tuple", data := .seq #[.str ⟨#[c0]⟩ xu, v] }).get? c = some o := q
      rcases Heap.get?_push_cases q with ⟨y1, y2⟩ | q'
      · subst y1; subst y2; exact p2
      · exact u2.extBut c o nc.1 (g1 c o nc.1 nc.2.2.1 nc.2.2.2.1 nc.2.2.2.2 q')) off
    refine ⟨.ref s.heap.objs.size, _, I2, rfl, ⟨_, c0, y, hp0, rfl, rfl, hcx, fun ys' h' => by rw [I.list_inj h' hL]; exact hy⟩, ⟨z2, u2.extBut _ _ D.TIz (g1 _ _ D.TIz D.TIO D.TI1 D.TI2 hI), ⟨_, _, u2.extBut _ _ D.TOz o1⟩, s1.extBut u2.extBut i1z, s2.1.extBut u2.extBut i2z⟩, fun c hc => (off c hc).1⟩
  done := by
    intro X hP hw hK hc i pins s σ H E I hf st hg
    subst hP hw hK
    obtain ⟨hz, hI, ⟨a, b, hO⟩, h1, h2⟩ := st
    obtain ⟨ys, hL, hx⟩ := hg
    obtain ⟨jts, rw', pL, hz2⟩ := I.list hL
    refine zq_end (I.ok.hd hc) (gw_str hty) (gv_list (xs := jts.toArray) n2) D hz hI hO h1 ⟨h2, pL.isList⟩ (Array.getElem?_eq_none hx) fun k1 g1 => ⟨rfl, turnedL (t' := s.toks) (ch := [z, TI, TO, i1, i2]) I (fun c o nc q => ?_) hf⟩
    simp only [List.mem_cons, List.not_mem_nil, or_false, not_or] at nc
    exact g1 c o nc.1 nc.2.2.1 nc.2.2.2.1 nc.2.2.2.2 q
  self := fun _ _ _ _ _ ⟨hz, _⟩ h => wpAny_pyIter_zip hz h
section
variable {prog : Program} {w : World} {A : Around} {E : Value → Shared → Prop} {s : Shared}
theorem zq_new {g : Str} {u0 : Tok} {l : Addr} {ys : Array Value} {Q : Value → Shared → Prop} (hl : s.heap.IsList l ys)
    (q : ∀ h' z TI TO i1 i2, s.heap.objs.size = i1 → i2 = i1 + 1 → TI = i1 + 2 → TO = i1 + 3 → z = i1 + 4 → IsZip h' z TI TO .none → IsPair h' TI (.ref i1) (.ref i2) → IsPair h' TO .none .none → h'.IsStrIter i1 (strIterType g) g u0 0 → h'.IsListIter i2 l 0 → (∀ c o, s.heap.get? c = some o → h'.get? c = some o) → Q (.ref z) { s with heap := h' }) :
    wpAny (model prog w) A (call (.type "zip") [.str g u0, .ref l]) Q E s := by
  refine callType_new PySem.F.called_zip (by decide) (PySem.F.typeCall_zip_2 _ _) (PySem.F.newCall_zip_2 _ _) (fun obj => PySem.F.args_object_init_3 obj _ _) PySem.F.entry_zip_new (S := fun _ R s => s.heap.IsList l ys ∧ ∀ h', h' = ((((s.heap.push { cls := .type (strIterType g), data := .fields #[.str g u0, .int 0 0] }).push { cls := .type "list_iterator", data := .fields #[.ref l, .int 0 0] }).push { cls := .type "tuple", data := .seq #[.ref s.heap.objs.size, .ref (s.heap.objs.size + 1)] }).push { cls := .type "tuple", data := .seq #[.none, .none] }).push { cls := .type "zip", data := .fields #[.none, .bool false, .bool false, .ref (s.heap.objs.size + 2), .ref (s.heap.objs.size + 3)] } → R (.ok (.ret (.ref (s.heap.objs.size + 4)))) { s with heap := h' }) ?_ ⟨hl, fun h' e => ?_⟩
  · refine .of_wp fun prog w A R s h => ?_
    obtain ⟨hp, gg, d, tk, os⟩ := s
    obtain ⟨h2, h⟩ := h
    have hsub := PySem.sub_zip
    have L2 : Heap.IsList (Shared.heap ⟨hp.push { cls := .type (strIterType g), data := .fields #[.str g u0, .int 0 0] }, gg, d, tk, os⟩) l ys := Heap.IsList.push h2 _
    wp_walk using wpAny_pyIter_strU, wpAny_pyIter_list L2
    refine ⟨_, rfl, ?_⟩
    have h' := h _ rfl
    simp [Heap.size_push]
    exact h'
  · obtain ⟨k1, e1⟩ : ∃ k, k = s.heap.push { cls := .type (strIterType g), data := .fields #[.str g u0, .int 0 0] } := ⟨_, rfl⟩
    obtain ⟨k2, e2⟩ : ∃ k, k = k1.push { cls := .type "list_iterator", data := .fields #[.ref l, .int 0 0] } := ⟨_, rfl⟩
    obtain ⟨k3, e3⟩ : ∃ k, k = k2.push { cls := .type "tuple", data := .seq #[.ref s.heap.objs.size, .ref (s.heap.objs.size + 1)] } := ⟨_, rfl⟩
    obtain ⟨k4, e4⟩ : ∃ k, k = k3.push { cls := .type "tuple", data := .seq #[.none, .none] } := ⟨_, rfl⟩
    rw [← e1, ← e2, ← e3, ← e4] at e
    have c1 : k1.objs.size = s.heap.objs.size + 1 := by rw [e1]; exact Heap.size_push ..
    have c2 : k2.objs.size = s.heap.objs.size + 2 := by rw [e2, Heap.size_push, c1]
    have c3 : k3.objs.size = s.heap.objs.size + 3 := by rw [e3, Heap.size_push, c2]
    have c4 : k4.objs.size = s.heap.objs.size + 4 := by rw [e4, Heap.size_push, c3]
    have u4 : ∀ c o, k4.get? c = some o → h'.get? c = some o := fun c o z => by rw [e]; exact Heap.get?_push_of_some _ z
    have u3 : ∀ c o, k3.get? c = some o → h'.get? c = some o := fun c o z => u4 c o (by rw [e4]; exact Heap.get?_push_of_some _ z)
    have u2 : ∀ c o, k2.get? c = some o → h'.get? c = some o := fun c o z => u3 c o (by rw [e3]; exact Heap.get?_push_of_some _ z)
    have u1 : ∀ c o, k1.get? c = some o → h'.get? c = some o := fun c o z => u2 c o (by rw [e2]; exact Heap.get?_push_of_some _ z)
    have u0 : ∀ c o, s.heap.get? c = some o → h'.get? c = some o := fun c o z => u1 c o (by rw [e1]; exact Heap.get?_push_of_some _ z)
    have G1 := u1 s.heap.objs.size _ (by rw [e1]; exact Heap.get?_push_size _ rfl)
    have G2 := u2 (s.heap.objs.size + 1) _ (by rw [e2, ← c1]; exact Heap.get?_push_size _ rfl)
    have G3 := u3 (s.heap.objs.size + 2) _ (by rw [e3, ← c2]; exact Heap.get?_push_size _ rfl)
    have G4 := u4 (s.heap.objs.size + 3) _ (by rw [e4, ← c3]; exact Heap.get?_push_size _ rfl)
    have G5 : h'.get? (s.heap.objs.size + 4) = some { cls := .type "zip", data := .fields #[.none, .bool false, .bool false, .ref (s.heap.objs.size + 2), .ref (s.heap.objs.size + 3)] } := by rw [e, ← c4]; exact Heap.get?_push_size _ rfl
    exact ⟨⟨_, G5, rfl⟩, q h' _ _ _ _ _ rfl rfl rfl rfl rfl G5 G3 G4 ⟨_, G1, rfl, rfl⟩ ⟨_, G2, rfl, rfl⟩ u0⟩
end
section
variable {X : Cx}
def iZst (K : PySem.W.Frag) (ta : TA) : TI := fun σ H R => ta σ H fun vs H1 => ∃ (g : Str) (l : Addr), vs = [.str g, .ref l] ∧ (∃ ys, SqL K H1 l ys) ∧ R (Itq K g l) H1
theorem pi_zst {a b : Expr} {ta : TA} {p pos tp : Pos} {es : List Expr} {x1 : Nat} (hg : Gl X "zip") (hm : X.mg "zip" = none) (ha : PA X [a, b] ta) (hs : starEach [a, b] X.env = (false, eval a X.env) :: starEach [b] X.env := by rfl) (hp : (backTo pos (starEach [b] X.env)).any (·.1) = false := by rfl) :
    PI X (.Tuple es x1 tp) (.Call (.Name "zip" p) [a, b] [] pos) (iZst X.K ta) := by
  intro pins s σ H R I h
  refine Call_ (ld_blt I hg hm boot_zip (PyProof.Rows.callWith_type1 (thn (ha pos pins s σ H _ I h) fun us s1 ⟨vs, H1, I1, r1, q1⟩ => ?_) hs hp))
  obtain ⟨g, l, rfl, ⟨ys, hL⟩, q⟩ := q1
  cases r1 with
  | cons r rr =>
    obtain ⟨u0, rfl⟩ := r
    cases rr with
    | cons r rr =>
      cases rr
      cases r
      obtain ⟨jts, rw', pL, _⟩ := I1.list hL
      have ll : l < s1.heap.objs.size := by obtain ⟨o, e, _⟩ := pL.isList; exact Heap.lt_size e
      refine zq_new pL.isList fun h' z TI TO i1 i2 d1 d2 d3 d4 d5 hz hI hO h1 h2 kp => ?_
      refine wpAny_pyIter_zip hz ?_
      have ne : ∀ {a b : Nat}, ¬ (a = b) → a ≠ b := fun h => h
      have lN : ∀ {a b : Nat}, a < b → a < b := fun h => h
      have ll := lN ll
      have D : ZpA z TI TO i1 i2 [i1] [i2, l] := by
        refine ⟨ne (by omega), ne (by omega), ne (by omega), ne (by omega), ne (by omega), by simp, by simp, fun c hc => ?_, fun c hc => ?_⟩
        · simp only [List.mem_cons, List.not_mem_nil, or_false] at hc
          rw [hc]; exact ⟨ne (by omega), ne (by omega), ne (by omega)⟩
        · simp only [List.mem_cons, List.not_mem_nil, or_false] at hc
          rcases hc with hc | hc <;> rw [hc] <;> exact ⟨ne (by omega), ne (by omega), ne (by omega)⟩
      have n2 : l ≠ i2 := ne (by omega)
      refine ⟨_, [z, TI, TO, i1, i2], _, _, H1, rfl, I1.kept (t' := s1.toks) kp, turn_zst (g := g) (l := l) (by unfold strIterType; cases g.cps.all (· < 128) <;> simp) D n2, ⟨hz, hI, ⟨_, _, hO⟩, h1, h2⟩, fun c hc => ?_, q⟩
      · have hb : s1.heap.objs.size ≤ c := by
          simp only [List.mem_cons, List.not_mem_nil, or_false] at hc
          have le : ∀ {a b : Nat}, a ≤ b → a ≤ b := fun h => h
          rcases hc with hc | hc | hc | hc | hc <;> rw [hc] <;> exact le (by omega)
        exact I1.fpOk hb (I1.hok.fresh hb)
end
theorem for_zst {K : PySem.W.Frag} {x : Str} {l : Addr} {ys : List V} {g : TG} {tb : TS} {D : Ends} {σ : L2.St} {H : Hp} (hlen : x.cps.toList.length ≤ ys.length) (Pv : Nat → L2.St → Hp → Prop) (h0 : Pv 0 σ H) (hl : ∀ i σ H, i ≤ x.cps.toList.length → Pv i σ H → SqL K H l ys)
    (hs : ∀ i c y p σ H, x.cps.toList[i]? = some c → ys[i]? = some y → Pv i σ H → H p = none → g (.ref p) σ (upd H p (.tup [.str ⟨#[c]⟩, y])) fun σ2 H2 => tb { D with nx := Pv (i + 1), ct := Pv (i + 1), bk := D.nx } σ2 H2) (hd : ∀ σ H, Pv x.cps.toList.length σ H → D.nx σ H) :
    ∃ W : Nat → Nat → L2.St → Hp → Prop, (∃ m, W 0 m σ H) ∧ ∀ i m σ H, W i m σ H →
      ((Itq K x l).stop i H ∧ D.nx σ H) ∨ ((Itq K x l).go i H ∧ ∃ N : L2.St → Hp → Prop, (∀ σ' H', N σ' H' → ∃ m', m' < m ∧ W (i + 1) m' σ' H') ∧ ∀ v H', (Itq K x l).yld i H v H' → g v σ H' fun σ2 H2 => tb { D with nx := N, ct := N, bk := D.nx } σ2 H2) := by
  rw [Array.length_toList] at *
  refine ⟨fun i m σ H => m = x.cps.size - i ∧ i ≤ x.cps.size ∧ Pv i σ H, ⟨x.cps.size, by simp, Nat.zero_le _, h0⟩, ?_⟩
  rintro i m σ H ⟨rfl, hi, p⟩
  have q2 := hl i σ H hi p
  by_cases hlt : i < x.cps.size
  · have hlt2 : i < ys.length := by omega
    refine .inr ⟨⟨ys, ys[i], q2, hlt, by simp [hlt2]⟩, Pv (i + 1), fun σ' H' p' => ⟨x.cps.size - (i + 1), by omega, rfl, hlt, p'⟩, fun v H' y => ?_⟩
    obtain ⟨b, c, y, hb, rfl, rfl, y1, y2⟩ := y
    exact hs i c y b σ H (by rw [Array.getElem?_toList]; exact y1) (y2 ys q2) p hb
  · have e : i = x.cps.size := by omega
    subst e
    exact .inl ⟨⟨ys, q2, Nat.le_refl _⟩, hd σ H p⟩
end L3

/-! a set of numbers, walked: in the table's order or in the order that the setting picks. -/
namespace PySem
namespace SW
theorem entry_set_iter : entryFor table "set.__iter__" = some Builtin.«frozenset.__iter__» :=
  entryFor_alias (id' := "frozenset.__iter__") (by kernel_rfl) (by first | rfl | decide +kernel | (unfold String.splitOn; simp +decide [String.splitOnAux])) (by decide +kernel) (by kernel_rfl)
theorem owner_si : Manifest.owners.lookup (String.ofList ['r', 'o', 't', 'a', 'r', 'e', 't', 'i', '_', 't', 'e', 's'].reverse) = some Manifest.sig_set_iterator := by kernel_rfl
theorem slot_next : Slot "set_iterator" "__next__" "set_iterator.__next__" :=
  .of (owner := "set_iterator") (n := "__next__") (by rw [typeLookup_type, builtinLookup_eq_fast]; kernel_rfl) (by decide +kernel) (by decide +kernel) (by decide +kernel)
    (by first | exact .inl (by decide +kernel) | exact .inr (by decide +kernel)) (by rw [isSubtype_type]; kernel_rfl)
theorem entry_next : entryFor table "set_iterator.__next__" = some Builtin.«set_iterator.__next__» := entryFor_of_tree (by kernel_rfl)
theorem args_next (a : Value) : argsOk "set_iterator.__next__" ⟨[a], []⟩ := by
  unfold argsOk; rw [signature?_of (id := "set_iterator.__next__") (n := ['_', '_', 't', 'x', 'e', 'n', '_', '_']) (o := ['r', 'o', 't', 'a', 'r', 'e', 't', 'i', '_', 't', 'e', 's']) (by kernel_rfl) owner_si]; kernel_rfl
theorem slot_iter : Slot "set_iterator" "__iter__" "set_iterator.__iter__" :=
  .of (owner := "set_iterator") (n := "__iter__") (by rw [typeLookup_type, builtinLookup_eq_fast]; kernel_rfl) (by decide +kernel) (by decide +kernel) (by decide +kernel)
    (by first | exact .inl (by decide +kernel) | exact .inr (by decide +kernel)) (by rw [isSubtype_type]; kernel_rfl)
theorem args_iter (a : Value) : argsOk "set_iterator.__iter__" ⟨[a], []⟩ := by
  unfold argsOk; rw [signature?_of (id := "set_iterator.__iter__") (n := ['_', '_', 'r', 'e', 't', 'i', '_', '_']) (o := ['r', 'o', 't', 'a', 'r', 'e', 't', 'i', '_', 't', 'e', 's']) (by kernel_rfl) owner_si]; kernel_rfl
theorem entry_iter : entryFor table "set_iterator.__iter__" = some Builtin.«dict_keyiterator.__iter__» :=
  entryFor_alias (id' := "dict_keyiterator.__iter__") (by kernel_rfl) (by first | rfl | decide +kernel | (unfold String.splitOn; simp +decide [String.splitOnAux])) (by decide +kernel) (by kernel_rfl)
end SW
theorem erase_perm {α : Type} : ∀ (l : List α) (i : Nat) (h : i < l.length), (l[i] :: l.eraseIdx i).Perm l
  | x :: l, 0, _ => .refl _
  | x :: l, i + 1, h => by
    have h' : i < l.length := by simpa using h
    rw [List.getElem_cons_succ, List.eraseIdx_cons_succ]
    exact (List.Perm.swap x _ _).trans ((erase_perm l i h').cons x)
theorem pick_go {α : Type} (next : Nat → Nat) : ∀ (fuel k : Nat) (left : List α) (out : Array α), left.length = fuel → (pickOrder.go next fuel k left out).toList.Perm (out.toList ++ left)
  | 0, k, left, out, h => by
    have : left = [] := List.length_eq_zero_iff.mp h
    subst this
    unfold pickOrder.go
    simp
  | fuel + 1, k, left, out, h => by
    unfold pickOrder.go
    have hi : next k % left.length < left.length := Nat.mod_lt _ (by omega)
    rw [List.getElem?_eq_getElem hi]
    dsimp only
    refine (pick_go next fuel (k + 1) _ _ (by rw [List.length_eraseIdx_of_lt hi]; omega)).trans ?_
    rw [Array.toList_push, List.append_assoc]
    exact (List.Perm.refl _).append (erase_perm left _ hi)
theorem pick_perm {α : Type} (next : Nat → Nat) (xs : Array α) : (pickOrder next xs).toList.Perm xs.toList := by
  unfold pickOrder
  have := pick_go next xs.size 0 xs.toList #[] (Array.length_toList)
  simpa using this
open ST in
theorem below_next {xs : Array Nat} (hr : Ris xs.toList) {i j : Nat} (h : xs[i]? = some j) : SetTable.below xs (j + 1) = i + 1 := by
  obtain ⟨hi, e⟩ := Array.getElem?_eq_some_iff.mp h
  obtain ⟨h1, h2, h3⟩ := below_spec hr (j + 1)
  rcases Nat.lt_trichotomy (SetTable.below xs (j + 1)) (i + 1) with c | c | c
  · have := h3 i hi (by omega)
    omega
  · exact c
  · have hi2 : i + 1 < xs.size := by omega
    have a := h2 (i + 1) hi2 (by omega)
    have b := hr.get hi hi2 (Nat.lt_succ_self i)
    omega
open ST in
theorem below_zero {xs : Array Nat} (hr : Ris xs.toList) : SetTable.below xs 0 = 0 := by
  obtain ⟨h1, h2, h3⟩ := below_spec hr 0
  rcases Nat.eq_zero_or_pos (SetTable.below xs 0) with c | c
  · exact c
  · have := h2 0 (by omega) c
    omega
def byTx (w : World) : Bool := w.params.followText "set-order"
def wlk (w : World) (a : Addr) (ep : Nat) (es : Array (Int × Value)) : Array (Int × Value) := if byTx w = true then pickOrder (w.params.setOrder a ep) es else es
theorem wlk_perm (w : World) (a : Addr) (ep : Nat) (es : Array (Int × Value)) : (wlk w a ep es).toList.Perm es.toList := by
  unfold wlk
  split
  · exact pick_perm _ _
  · exact .refl _
def siObj (slot i : Nat) (d : Addr) (n ep : Nat) : Obj := { cls := .type "set_iterator", data := .fields #[rawInt slot, rawInt i, .ref d, rawInt n, rawInt ep] }
structure SiAt (w : World) (it d : Addr) (ns : List Int) (es : Array (Int × Value)) (ep : Nat) (t : SetTable) (i : Nat) (h : Heap) : Prop where
  ok : IntG h d (!byTx w) ns es ep t
  it : ∃ slot, h.get? it = some (siObj slot i d es.size ep) ∧ (byTx w = false → SetTable.below t.place slot = i)
section
variable {prog : Program} {w : World} {A : Around} {E : Value → Shared → Prop} {s : Shared} {it d : Addr} {ns : List Int} {es : Array (Int × Value)} {ep : Nat} {t : SetTable}
theorem IntG.at {h h' : Heap} {led : Bool} (I : IntG h d led ns es ep t) (k : ∀ o, h.get? d = some o → h'.get? d = some o) : IntG h' d led ns es ep t := by
  obtain ⟨o, ho, r⟩ := I.get
  exact ⟨⟨o, k o ho, r⟩, I.el, I.pm, I.good, I.led, I.pl, I.full⟩
theorem IntG.fits {h : Heap} {led : Bool} (I : IntG h d led ns es ep t) : t.fits es.size = true := by have := I.good.fits; rw [List.length_map, Array.length_toList] at this; exact this
theorem wpAny_byText {Q : Bool → Shared → Prop} (h : Q (byTx w) s) : wpAny (model prog w) A setsByText Q E s := by
  unfold setsByText
  exact wpAny_bind (wpAny_askSetting (wpAny_pure h))
theorem si_setNext {slot i : Nat} {Q : Option (Value × Nat) → Shared → Prop} (I : IntG s.heap d (!byTx w) ns es ep t) (hb : byTx w = false → SetTable.below t.place slot = i)
    (h : ∀ nx, (byTx w = false → i < es.size → SetTable.below t.place nx = i + 1) → Q (((wlk w d ep es)[i]?).map fun e => (e.2, nx)) s) : wpAny (model prog w) A (setNext d slot i ep) Q E s := by
  obtain ⟨o, ho, hex, hd⟩ := I.get
  have hps : t.place.size = es.size := by have := I.good.len; simpa using this
  unfold setNext
  refine wpAny_bind (wpAny_setState_of ho hd I.fits ?_)
  dsimp only
  refine wpAny_bind (wpAny_byText ?_)
  cases hB : byTx w with
  | true =>
    simp only [if_true]
    rw [if_neg (by simp)]
    unfold setWalk
    refine wpAny_bind (wpAny_bind (wpAny_setState_of ho hd I.fits ?_))
    dsimp only
    refine wpAny_bind (wpAny_byText ?_)
    rw [hB]
    simp only [if_true]
    refine wpAny_bind (wpAny_askSetting (wpAny_pure (wpAny_pure ?_)))
    have := h slot (fun z => by rw [hB] at z; cases z)
    unfold wlk at this
    rw [if_pos hB] at this
    exact this
  | false =>
    simp only [Bool.false_eq_true, if_false]
    have hdr : (!t.plain && decide (es.size > 1)) = false := by rw [I.pl]; rfl
    show wpAny _ _ (if (!t.plain && decide (es.size > 1)) = true then _ else _) _ _ _
    rw [hdr, if_neg (by decide)]
    refine wpAny_bind ?_
    show wpAny _ _ (if (!t.led && !es.isEmpty) = true then _ else _) _ _ _
    have hled : (!t.led && !es.isEmpty) = false := by rw [I.led, hB]; rfl
    rw [hled, if_neg (by decide)]
    refine wpAny_pure ?_
    try dsimp only
    rw [hb hB]
    refine wpAny_pure ?_
    unfold wlk at h
    rw [if_neg (by rw [hB]; decide)] at h
    by_cases hi : i < es.size
    · have e1 : es[i]? = some es[i] := Array.getElem?_eq_getElem hi
      have e2 : t.place[i]? = some (t.place[i]'(by omega)) := Array.getElem?_eq_getElem (by omega)
      have := h (t.place[i]'(by omega) + 1) (fun _ _ => below_next I.good.ris e2)
      rw [e1] at this ⊢
      rw [e2]
      exact this
    · have e1 : es[i]? = none := Array.getElem?_eq_none (by omega)
      have := h 0 (fun _ z => absurd z hi)
      rw [e1] at this ⊢
      exact this
theorem si_item {i : Nat} {Q : Option Value → Shared → Prop} {e : Int × Value} (st : SiAt w it d ns es ep t i s.heap) (hne : d ≠ it) (hx : (wlk w d ep es)[i]? = some e) (hi : i < es.size)
    (q : ∀ h', SiAt w it d ns es ep t (i + 1) h' → Heap.SameBut it s.heap h' → Q (some e.2) { s with heap := h' }) : wpAny (model prog w) A (pyNext (.ref it)) Q E s := by
  obtain ⟨I, slot, eb, hb⟩ := st
  obtain ⟨o, ho, hex, hd⟩ := I.get
  have ty : s.TypeIs (.ref it) "set_iterator" := ⟨_, eb, rfl⟩
  have db : (siObj slot i d es.size ep).data = .fields #[rawInt slot, rawInt i, .ref d, rawInt es.size, rawInt ep] := rfl
  unfold pyNext
  refine wpAny_bind (wpAny_attempt (wpAny_callSpecial?_slot (name := Str.ofString "__next__") ty SW.slot_next (wpAny_call_entry SW.slot_next ty SW.entry_next ?_ (SW.args_next _))))
  unfold Builtin.«set_iterator.__next__»
  refine wpAny_bind (wpAny_of_eq (a := (Value.ref it, [])) rfl ?_)
  dsimp only
  refine wpAny_bind (wpAny_fieldsOf eb db ?_)
  show wpAny _ _ (setEntries d >>= fun _ => _) _ _ _
  refine wpAny_bind (wpAny_setEntries_of ho hd I.fits ?_)
  rw [if_neg (by simp)]
  show wpAny _ _ (setNext d (slot : Int).toNat (i : Int).toNat (ep : Int).toNat >>= fun _ => _) _ _ _
  simp only [Int.toNat_natCast]
  refine wpAny_bind (si_setNext I hb fun nx hnx => ?_)
  rw [hx]
  dsimp only [Option.map]
  show wpAny _ _ (setField (.ref it) 0 (rawInt nx) >>= fun _ => _) _ _ _
  refine wpAny_bind (wpAny_setField_rec (cls := .type "set_iterator") (k := 0) eb (by simp) fun k1 z1 u1 => ?_)
  replace z1 : k1.get? it = some (siObj nx i d es.size ep) := z1
  replace u1 : Heap.SameBut it s.heap k1 := u1
  show wpAny _ _ (setField (.ref it) 1 (rawInt ((i : Int) + 1)) >>= fun _ => _) _ _ _
  refine wpAny_bind (wpAny_setField_rec (cls := .type "set_iterator") (k := 1) z1 (by simp) fun k2 z2 u2 => ?_)
  replace z2 : k2.get? it = some (siObj nx (i + 1) d es.size ep) := z2
  replace u2 : Heap.SameBut it k1 k2 := u2
  refine wpAny_pure ⟨_, rfl, wpAny_pure (q k2 ⟨I.at fun o e => (u1.trans u2).extBut _ _ hne e, nx, z2, fun z => hnx z hi⟩ (u1.trans u2))⟩
theorem si_end {i : Nat} {Q : Option Value → Shared → Prop} (hh : A.handled = none) (st : SiAt w it d ns es ep t i s.heap) (hx : (wlk w d ep es)[i]? = none)
    (q : ∀ h', Heap.ExtBut it s.heap h' → Q none { s with heap := h' }) : wpAny (model prog w) A (pyNext (.ref it)) Q E s := by
  obtain ⟨I, slot, eb, hb⟩ := st
  obtain ⟨o, ho, hex, hd⟩ := I.get
  have ty : s.TypeIs (.ref it) "set_iterator" := ⟨_, eb, rfl⟩
  have db : (siObj slot i d es.size ep).data = .fields #[rawInt slot, rawInt i, .ref d, rawInt es.size, rawInt ep] := rfl
  unfold pyNext
  refine wpAny_bind (wpAny_attempt (wpAny_callSpecial?_slot (name := Str.ofString "__next__") ty SW.slot_next (wpAny_call_entry SW.slot_next ty SW.entry_next ?_ (SW.args_next _))))
  unfold Builtin.«set_iterator.__next__»
  refine wpAny_bind (wpAny_of_eq (a := (Value.ref it, [])) rfl ?_)
  dsimp only
  refine wpAny_bind (wpAny_fieldsOf eb db ?_)
  show wpAny _ _ (setEntries d >>= fun _ => _) _ _ _
  refine wpAny_bind (wpAny_setEntries_of ho hd I.fits ?_)
  rw [if_neg (by simp)]
  show wpAny _ _ (setNext d (slot : Int).toNat (i : Int).toNat (ep : Int).toNat >>= fun _ => _) _ _ _
  simp only [Int.toNat_natCast]
  refine wpAny_bind (si_setNext I hb fun nx hnx => ?_)
  rw [hx]
  dsimp only [Option.map]
  show wpAny _ _ (setField (.ref it) 2 Value.none >>= fun _ => _) _ _ _
  refine wpAny_bind (wpAny_setField eb db (by simp) ?_)
  show wpAny _ _ (newExc (.type "StopIteration") ([] : List Value) >>= _) _ _ _
  refine wpAny_bind ?_
  simp only [newExc, newTuple]
  refine wpAny_bind (wpAny_newObj_type (wpAny_bind (m := firstArgMember _ _) (wpAny_of_eq (a := .none) (by first | rfl | (simp only [firstArgMember]; rfl)) (wpAny_newObj_type ?_ (by size_fits)))) (by size_fits))
  simp only [raiseNew]
  refine wpAny_bind (wpAny_handled ?_)
  rw [show A.in1.handled = none from hh]
  refine wpAny_bind (wpAny_pure (wpAny_throw ?_))
  refine wpAny_bind (wpAny_isInstance (b := true) (T := "StopIteration") ⟨_, Heap.get?_push_size _ rfl, rfl⟩ isSubtype_stop ?_)
  exact wpAny_pure (q _ (((Heap.SameBut.update ..).extBut.push _).push _))
theorem si_self {o : Obj} {Q : Value → Shared → Prop} (ho : s.heap.get? it = some o) (hc : o.cls = .type "set_iterator") (h : Q (.ref it) s) : wpAny (model prog w) A (pyIter (.ref it)) Q E s := by
  have ty : s.TypeIs (.ref it) "set_iterator" := ⟨_, ho, hc⟩
  refine wpAny_pyIter_slot ty SW.slot_iter (wpAny_call_entry SW.slot_iter ty SW.entry_iter ?_ (SW.args_iter _))
  show wpAny _ _ (ret (.ref it)) _ _ s
  exact wpAny_pure ⟨_, rfl, "set_iterator", _, ty, SW.slot_next.lookup, h⟩
theorem si_iter {Q : Value → Shared → Prop} (I : IntG s.heap d (!byTx w) ns es ep t) (h : Q (.ref s.heap.objs.size) { s with heap := s.heap.push (siObj 0 0 d es.size ep) }) : wpAny (model prog w) A (pyIter (.ref d)) Q E s := by
  obtain ⟨o, ho, hex, hd⟩ := I.get
  have ty : s.TypeIs (.ref d) "set" := ⟨_, ho, hex.1⟩
  refine wpAny_pyIter_slot ty F.slot_set_iter (wpAny_call_entry F.slot_set_iter ty SW.entry_set_iter ?_ (F.args_set_iter_1 _))
  unfold Builtin.«frozenset.__iter__» Builtin.Frozenset.slot0 slotArgs
  simp only [List.isEmpty_nil, Bool.not_true, Bool.false_eq_true, ↓reduceIte, bind_assoc, List.length_nil, bne_self_eq_false]
  unfold Builtin.Frozenset.addrOf Builtin.Frozenset.sizeOf
  refine wpAny_bind (wpAny_pure ?_)
  try dsimp only
  refine wpAny_bind (wpAny_pure ?_)
  refine wpAny_bind (wpAny_bind (wpAny_setEntries_of ho hd I.fits (wpAny_pure ?_)))
  have hdr : (!byTx w && (!t.plain && decide (es.size > 1))) = false := by rw [I.pl]; simp
  unfold setDrawn
  refine wpAny_bind (wpAny_bind (wpAny_setState_of ho hd I.fits ?_))
  dsimp only
  refine wpAny_bind (wpAny_byText (wpAny_pure ?_))
  show wpAny _ _ (if (!byTx w && (!t.plain && decide (es.size > 1))) = true then _ else _) _ _ _
  rw [hdr, if_neg (by decide)]
  refine wpAny_bind (wpAny_pure ?_)
  refine wpAny_bind (wpAny_setEpoch_of ho hd I.fits ?_)
  refine wpAny_bind (wpAny_newObj_type ?_ (by size_fits))
  exact wpAny_pure ⟨_, rfl, "set_iterator", _, ⟨_, Heap.get?_push_size _ rfl, rfl⟩, SW.slot_next.lookup, h⟩
theorem si_walks (hh : A.handled = none) (hne : d ≠ it) :
    Walks prog w A it [it, d] [it] es.size (fun i v => ∃ e, (wlk w d ep es)[i]? = some e ∧ v = e.2) (fun i h => SiAt w it d ns es ep t i h) where
  sub := fun b hb => by simp at hb; simp [hb]
  frame := fun _ _ _ st k => ⟨st.ok.at fun o e => k d (by simp) o e, let ⟨sl, e, r⟩ := st.it; ⟨sl, k it (by simp) _ e, r⟩⟩
  item := fun i s Q E hi st q => by
    have hz : (wlk w d ep es).size = es.size := by rw [← Array.length_toList, (wlk_perm w d ep es).length_eq, Array.length_toList]
    have hx : (wlk w d ep es)[i]? = some ((wlk w d ep es)[i]'(by omega)) := Array.getElem?_eq_getElem (by omega)
    exact si_item st hne hx hi fun h' st' sb => q _ h' s.toks ⟨_, hx, rfl⟩ st' fun b o hb e => sb.extBut b o (fun z => hb (by simp [z])) e
  done := fun s Q E st q => by
    have hz : (wlk w d ep es).size = es.size := by rw [← Array.length_toList, (wlk_perm w d ep es).length_eq, Array.length_toList]
    exact si_end hh st (Array.getElem?_eq_none (by omega)) fun h' eb => q h' s.toks fun b o hb e => eb b o (fun z => hb (by simp [z])) e
  self := fun _ _ _ _ st q => let ⟨_, e, _⟩ := st.it; si_self e rfl q
theorem si_hint {Q : Bool → Shared → Prop} {r : Addr} (hT : s.TypeIs (.ref r) "set") (h : Q false s) : wpAny (model prog w) A (Builtin.List.listLengthHint (.ref r)) Q E s := by
  unfold Builtin.List.listLengthHint
  refine wpAny_bind (wpAny_specialOf hT F.slot_set_len.lookup ?_)
  generalize hid : ("set.__len__" : String) = id0
  wp_delta
  rw [show splitId id0 = some ("set", "__len__") from by subst hid; decide +kernel]
  subst hid
  refine wpAny_bind (wpAny_isInstance (T := "set") (b := true) hT (by rw [isSubtype_type]; kernel_rfl) ?_)
  refine wpAny_ite_split (fun hab => absurd hab (by decide)) (fun _ => ?_)
  refine wpAny_ite_split (fun _ => ?_) (fun hab => absurd (by decide +kernel) hab)
  refine wpAny_bind (wpAny_typeOf hT ?_)
  exact wpAny_pure h
open PyProof.Rows PySem.W in
theorem si_src : KdlSrc prog w "set" d d es.size (fun i v => ∃ e, (wlk w d ep es)[i]? = some e ∧ v = e.2) (fun h => IntG h d (!byTx w) ns es ep t) where
  type := fun _ I => let ⟨_, e, x, _⟩ := I.get; ⟨_, e, x.1⟩
  there := fun _ I => let ⟨_, e, _⟩ := I.get; ⟨Heap.lt_size e, Heap.lt_size e⟩
  keep := fun _ _ I k => I.at fun o e => k d (.inl rfl) o e
  notList := by decide
  notTuple := by decide
  hint := fun _ _ _ _ I q => si_hint (let ⟨_, e, x, _⟩ := I.get; ⟨_, e, x.1⟩) q
  iter := fun _ _ hh I => ⟨_, _, fun _ _ q => si_iter I q, si_walks (ns := ns) (t := t) hh (let ⟨_, e, _⟩ := I.get; Nat.ne_of_lt (Heap.lt_size e)), ⟨I.at fun o e => Heap.get?_push_of_some _ e, 0, Heap.get?_push_size _ rfl, fun _ => below_zero I.good.ris⟩⟩
end
end PySem

/-! sorted(set(numbers)). -/
namespace PySem
section
variable {prog : Program} {w : World} {A : Around} {E : Value → Shared → Prop} {s : Shared}
theorem code_set_new_l (a : Value) {Q₁ : Value → Shared → Prop}
    (h : Q₁ (.ref s.heap.objs.size) { s with heap := s.heap.push (newSetO (!byTx w)) }) :
    codeAny (model prog w) A (.call (.builtin "set.__new__") ⟨[.type "set", a], []⟩) (wants Q₁ E) s := by
  refine codeAny_of_tree ?_
  show wpAny _ A.in1 (do checkBuiltinCall "set.__new__" ⟨[.type "set", a], []⟩; again (.builtin "set.__new__" ⟨[.type "set", a], []⟩)) _ _ s
  refine wpAny_bind (wpAny_of_eq (F.newCall_set_1 a) (wpAny_pure ⟨plainId_quiet F.plain_set_new _, codeAny_builtin F.entry_set_new ?_⟩))
  rw [Around.under_plainId F.plain_set_new _]
  unfold Builtin.«set.__new__» Builtin.Frozenset.newClass
  have hsub := sub_set_self
  obtain ⟨hp, g, d, tk, os⟩ := s
  dsimp only
  wp_walk
  refine wpAny_askSetting (wpAny_pure ?_)
  dsimp only
  simp only [newObj]
  refine wpAny_bind (wpAny_alloc (wpAny_pure ?_))
  exact wpAny_pure h
set_option maxRecDepth 100000 in
set_option maxHeartbeats 3200000 in
theorem call_set_led {x : Value} {Q : Value → Shared → Prop}
    (up : ∀ (E' : Value → Shared → Prop), wpAny (model prog w) A.in1.in1 (Builtin.Frozenset.updateFrom "set.__init__" s.heap.objs.size x) (fun _ s2 => Q (.ref s.heap.objs.size) s2) E' { s with heap := s.heap.push (newSetO (!byTx w)) }) :
    wpAny (model prog w) A (call (.type "set") [x]) Q E s := by
  obtain ⟨c0, tl0, hm0⟩ := F.called_set.mro
  have made0 := F.called_set.made
  have sub0 := F.called_set.sub
  refine wpAny_call (codeAny_of_tree ?_)
  show wpAny _ _ (callAny (.type "set") _) _ _ _
  refine wpAny_pure ⟨Code.quiet_builtin _ (by decide +kernel), codeAny_builtin F.entry_type_call ?_⟩
  rw [Around.under_plain (weight_type_call_type "set" [x] []) rfl]
  have n0 := F.called_set.notType
  have n1 := F.called_set.canCreate
  have ct0 := F.typeCall_set_1 x
  repeat (any_goals (first | assumption | wp_step))
  refine codeAny_mono (code_set_new_l x (E := E) (Q₁ := fun v s1 => v = .ref s.heap.objs.size ∧ s1 = { s with heap := s.heap.push (newSetO (!byTx w)) }) ⟨rfl, rfl⟩) fun r0 s0 hr0 => ?_
  cases r0 with
  | error e => exact hr0
  | ok f0 =>
    cases f0 with
    | ret v0 =>
      obtain ⟨rfl, rfl⟩ := hr0
      have hS0 : (s.heap.push (newSetO (!byTx w))).get? s.heap.objs.size = some (newSetO (!byTx w)) := Heap.get?_push_size _ rfl
      have hT0 : Shared.TypeIs { s with heap := s.heap.push (newSetO (!byTx w)) } (.ref s.heap.objs.size) "set" := ⟨_, hS0, rfl⟩
      have li0 := F.called_set.init.lookup
      have bi0 := F.called_set.init.bind (.ref s.heap.objs.size)
      repeat (any_goals (first | assumption | wp_step))
      refine codeAny_mono (codeAny_call_builtin (R := wants (fun r s2 => r = .none ∧ Q (.ref s.heap.objs.size) s2) E) F.called_set.init.plain F.entry_set_init (check_set_init_1 hT0 ?_)) fun r1 s1 hr1 => ?_
      · unfold Builtin.«set.__init__» noKeywords
        have up0 := up
        generalize Builtin.Frozenset.updateFrom = UF at up0 ⊢
        wp_walk
        refine wpAny_mono (up0 _) (fun _ s2 hq => ?_) fun _ _ e => e
        first | exact wpAny_pure ⟨rfl, hq⟩ | exact wpAny_pure (wpAny_pure ⟨rfl, hq⟩) | exact wpAny_bind (wpAny_pure (wpAny_pure ⟨rfl, hq⟩))
      · cases r1 with
        | error e => exact hr1
        | ok f1 =>
          cases f1 with
          | ret r =>
            obtain ⟨rfl, hq⟩ := hr1
            repeat (any_goals (first | assumption | wp_step))
          | _ => exact hr1.elim
    | _ => exact hr0.elim
end
theorem intG_new {h : Heap} (led : Bool) : IntG (h.push (newSetO led)) h.objs.size led [] #[] 0 (.fresh 0 0 led) :=
  ⟨⟨_, Heap.get?_push_size _ rfl, ⟨rfl, rfl, rfl⟩, rfl⟩, (by intro e he; cases he), .nil, ⟨⟨3, Nat.le_refl _, rfl⟩, rfl, List.Pairwise.nil, (by intro j hj; cases hj), rfl, Nat.zero_le _, (by intro x hx; cases hx)⟩, rfl, rfl, by show 0 * 5 < 7 * 3; decide⟩
end PySem
namespace L3
open PySem PySem.Spec PyProof.Rows L2 PySem.W
section
variable {prog : Program} {w : World} {A : Around} {E : Value → Shared → Prop} {s : Shared} {d : Addr} {ns : List Int} {es : Array (Int × Value)} {ep : Nat} {t : SetTable}
theorem si_collect {R : List Value → Shared → Prop} (hh : A.handled = none) (r : IntG s.heap d (!byTx w) ns es ep t) (z : es.size ≤ sizeLine)
    (q : ∀ (h' : Heap) (tk : Nat) (acc : Array Value), s.heap.objs.size < h'.objs.size → (∀ b o, s.heap.get? b = some o → h'.get? b = some o) → ItemsOf (fun i v => ∃ e, (wlk w d ep es)[i]? = some e ∧ v = e.2) acc es.size → R acc.toList { s with heap := h', toks := tk }) :
    wpAny (model prog w) A (collect (.ref d)) R E s := by
  have lt : d < s.heap.objs.size := let ⟨_, e, _⟩ := r.get; Heap.lt_size e
  unfold collect
  refine wpAny_bind (wpAny_runValue (codeAny_builtin entry_proto_collect' ?_))
  rw [Around.under_plainId PySem.F.plain_proto_collect]
  show wpAny _ A.in1 (newList ([] : List Value) >>= fun l => again (.builtin "list.__iadd__" ⟨[l, .ref d], []⟩)) _ _ _
  refine wpAny_bind (wpAny_newObj_type (wpAny_pure ⟨plainId_quiet PySem.F.plain_list_iadd _, codeAny_builtin entry_list_iadd' ?_⟩))
  rw [Around.under_plainId PySem.F.plain_list_iadd]
  have l0 : (s.heap.push { cls := .type "list", data := .seq ([] : List Value).toArray }).get? s.heap.objs.size = some { cls := .type "list", data := .seq #[] } := Heap.get?_push_size _ rfl
  show wpAny _ A.in1 (Builtin.List.listExtendWith (.ref s.heap.objs.size) (.ref d) (.ref s.heap.objs.size)) _ _ _
  have go := kdl_extend (prog := prog) (w := w) (A := A) (s := { s with heap := s.heap.push { cls := .type "list", data := .seq ([] : List Value).toArray } })
    (R := fun (x : Result) (s2 : Shared) => ∃ (h2 : Heap) (tk : Nat) (ac : Array Value) (c2 : Nat), x = .ok (.ret (.ref s.heap.objs.size)) ∧ s2 = { s with heap := h2, toks := tk } ∧ (∀ b o, s.heap.get? b = some o → h2.get? b = some o) ∧
      h2.get? s.heap.objs.size = some { cls := .type "list", dict := none, data := .seq ac c2, slots := #[] } ∧ ItemsOf (fun i v => ∃ e, (wlk w d ep es)[i]? = some e ∧ v = e.2) ac es.size)
    (si_src (ns := ns) (ep := ep) (t := t)) hh (r.at fun o e => Heap.get?_push_of_some _ e) s.heap.objs.size (Nat.ne_of_gt lt) (Nat.ne_of_gt lt) (.ref s.heap.objs.size) 0 l0
    (fun h2 tk ac c2 k e i => ⟨h2, tk, ac, c2, rfl, rfl, fun b o x => k b o (Nat.ne_of_lt (Heap.lt_size x)) (Heap.get?_push_of_some _ x), e, i⟩) z
  have fin : ∀ {h2 : Heap} {tk : Nat} {ac : Array Value} {c2 : Nat}, (∀ b o, s.heap.get? b = some o → h2.get? b = some o) → h2.get? s.heap.objs.size = some { cls := .type "list", dict := none, data := .seq ac c2, slots := #[] } →
      ItemsOf (fun i v => ∃ e, (wlk w d ep es)[i]? = some e ∧ v = e.2) ac es.size → R ac.toList { s with heap := h2, toks := tk } := fun {h2 tk ac c2} k e i => q h2 tk ac (Heap.lt_size e) k i
  refine wpAny_mono go (fun fn s2 x => ?_) fun e s2 x => ?_
  · cases fn with
    | done f =>
      obtain ⟨h2, tk, ac, c2, e, rfl, k, y, i⟩ := x
      cases e
      show wpAny _ A (load s.heap.objs.size >>= fun _ => _) _ _ _
      exact wpAny_bind (wpAny_load y (wpAny_pure (fin k y i)))
    | again c1 =>
      refine ⟨x.1, codeAny_mono x.2 fun r2 s3 y => ?_⟩
      obtain ⟨h2, tk, ac, c2, rfl, rfl, k, y, i⟩ := y
      show wpAny _ A (load s.heap.objs.size >>= fun _ => _) _ _ _
      exact wpAny_bind (wpAny_load y (wpAny_pure (fin k y i)))
  · obtain ⟨_, _, _, _, x, _⟩ := x
    cases x
theorem si_sortedI {Q : Value → Shared → Prop} {ms : List Int} (hh : A.handled = none) (r : IntG s.heap d (!byTx w) ns es ep t) (z : es.size < 64) (hs : ∀ vs : List Value, vs.length = es.size → (∀ (j : Nat) (v : Value), vs[j]? = some v → ∃ e, (wlk w d ep es)[j]? = some e ∧ v = e.2) → IntsAre vs ms)
    (q : ∀ (D : Addr) (h' : Heap) (tk : Nat) (out : List Value) (ns' : List Int) (c : Nat), s.heap.objs.size ≤ D → (∀ b o, s.heap.get? b = some o → h'.get? b = some o) → h'.get? D = some (seqObj "list" out.toArray c) → IntsAre out ns' → ns'.Perm ms → ns'.Pairwise (· ≤ ·) → Q (.ref D) { s with heap := h', toks := tk }) :
    wpAny (model prog w) A (call (.builtin "sorted") [.ref d]) Q E s := by
  have hn : es.size ≤ sizeLine := Nat.le_trans (Nat.le_of_lt z) (by decide)
  refine Calls.call_function_entry kind_sorted plain_sorted entry_sorted (args_sorted1 _) ?_
  unfold Builtin.«sorted»
  refine wpAny_bind (m := checkCount "sorted" 1 1 _) (wpAny_pure ?_)
  refine wpAny_bind (si_collect (A := A.in1) hh r hn fun h' tk acc hsz hk hacc => ?_)
  have hl : acc.toList.length = es.size := by rw [Array.length_toList]; exact hacc.1
  have hS : IntsAre acc.toList ms := hs _ hl fun j v e => hacc.2 j v (by rw [← Array.getElem?_toList]; exact e)
  refine wpAny_bind (wpAny_newList ?_ (by rw [hl]; exact hn))
  have hoL : (h'.push (seqObj "list" acc.toList.toArray 0)).get? h'.objs.size = some (seqObj "list" acc.toList.toArray 0) := Heap.get?_push_size _ rfl
  refine wpAny_bind (wpAny_holding (wpAny_call_entry slot_list_sort ⟨_, hoL, rfl⟩ entry_list_sort (list_sort_tree hoL hS (by rw [hl]; exact z) fun out ns' a1 a2 a3 => ⟨_, rfl, ?_⟩) (args_list_sort _)))
  obtain ⟨c, hc⟩ := sortedHeap_at (out := out) hoL
  refine wpAny_pure ⟨_, rfl, q h'.objs.size _ tk out.toList ns' c (Nat.le_of_lt hsz) (fun b o e => ?_) ?_ a1 a2 a3⟩
  · have e' := hk b o e
    have hlt := Heap.lt_size e'
    rw [sortedHeap_old (Nat.ne_of_lt hlt) (by rw [size_push']; exact Nat.lt_succ_of_lt hlt)]
    exact Heap.get?_push_of_some _ e'
  · rw [Array.toArray_toList]; exact hc
end
def onceZ (xs : List Int) : List Int := xs.foldl (fun ns x => if x ∈ ns then ns else ns ++ [x]) []
theorem onceZ_take {xs : List Int} {i : Nat} {x : Int} (h : xs[i]? = some x) : onceZ (xs.take (i + 1)) = if x ∈ onceZ (xs.take i) then onceZ (xs.take i) else onceZ (xs.take i) ++ [x] := by
  obtain ⟨hi, e⟩ := List.getElem?_eq_some_iff.mp h
  rw [List.take_succ_eq_append_getElem hi, e]
  unfold onceZ
  rw [List.foldl_append]; rfl
theorem onceZ_len (xs : List Int) : (onceZ xs).length ≤ xs.length := by
  have go : ∀ (xs acc : List Int), (xs.foldl (fun ns x => if x ∈ ns then ns else ns ++ [x]) acc).length ≤ acc.length + xs.length := by
    intro xs
    induction xs with
    | nil => intro acc; simp
    | cons x xs ih =>
      intro acc
      rw [List.foldl_cons]
      refine Nat.le_trans (ih _) ?_
      split <;> simp <;> omega
  have := go xs []
  unfold onceZ
  simpa using this
def isZ (w : World) (a : Addr) (ns : List Int) : Heap → Prop := fun h => ∃ es ep t, IntG h a (!byTx w) ns es ep t
abbrev SetZ (w : World) (a : Addr) (ns : List Int) : HO := .ext (isZ w a ns)
theorem isZ_ok {P : Program} {w w' : World} {H : Hp} {h : Heap} {a : Addr} {ns : List Int} (x : isZ w' a ns h) : ObjOk P w H h a (SetZ w' a ns) := by
  refine ⟨x, let ⟨_, _, _, I⟩ := x; let ⟨o, e, _⟩ := I.get; ⟨o, e⟩, fun h1 h2 x1 k => ?_⟩
  obtain ⟨es, ep, t, I⟩ := x1
  exact ⟨es, ep, t, I.at fun o e => k o e⟩
section
variable {X : Cx}
def rSetZ (X : Cx) : List V → Hp → VK → Prop := fun xs H Q => ∃ (p : Addr) (ns : List Int), xs = [.ref p] ∧ SqL X.K H p (ns.map V.int) ∧ ns.length ≤ 990 ∧ ∀ q, H q = none → Q (.ref q) (upd H q (SetZ X.w q (onceZ ns)))
theorem call_setZ (hc : X.calm = true) : CallR X (.type "set") (rSetZ X) := by
  intro pins s σ H xs us Q I r h
  obtain ⟨p, ns, rfl, hq, hz, q⟩ := h
  obtain ⟨u, rfl, rx⟩ := vals1 r
  cases rx
  obtain ⟨its, rv, pl, _⟩ := I.list hq
  have hlen : ns.length = its.length := by have := rv.length; simpa using this
  have hlt : p < s.heap.objs.size := by obtain ⟨_, _, e, _⟩ := pl; exact Heap.lt_size e
  refine call_set_led fun E' => ?_
  have n0 := intG_new (h := s.heap) (!byTx X.w)
  refine updateFrom_list (s := { s with heap := s.heap.push (newSetO (!byTx X.w)) }) (items := its.toArray) (by simp [I.ok.hd hc]) (pl.isList.push _) (Nat.ne_of_gt hlt) (by rw [Heap.size_push]; exact Nat.lt_succ_self _)
    (fun i h => ∃ es ep t, IntG h s.heap.objs.size (!byTx X.w) (onceZ (ns.take i)) es ep t) ⟨_, _, _, n0⟩ ?_ ?_ ?_ ?_
  · rintro i h h' _ ⟨es, ep, t, x⟩ k
    refine ⟨es, ep, t, x.at fun o e => k _ o ?_ e⟩
    show s.heap.objs.size ≠ (s.heap.push (newSetO (!byTx X.w))).objs.size
    rw [Heap.size_push]; exact Nat.ne_of_lt (Nat.lt_succ_self _)
  · intro h' k
    exact ⟨_, _, _, n0.at fun o e => k _ o e⟩
  · rintro i v s' Q' E'' hv ⟨es, ep, t, x⟩ hq'
    have hv' : its[i]? = some v := by simpa using hv
    have hi : i < ns.length := by rw [hlen]; exact (List.getElem?_eq_some_iff.mp hv').1
    obtain ⟨n, hn⟩ : ∃ n, ns[i]? = some n := ⟨_, List.getElem?_eq_getElem hi⟩
    obtain ⟨v2, hv2, rv2⟩ := rv.get (show (ns.map V.int)[i]? = some (.int n) by rw [List.getElem?_map, hn]; rfl)
    rw [hv'] at hv2
    cases hv2
    obtain ⟨tk, rfl⟩ := rv2
    unfold setAdd
    refine wpAny_holding (wpAny_bind ((intKind X.prog X.w).pyHash (k := n) (by show Value.isInt n (.int n tk) = true; simp [Value.isInt]) ?_))
    have hl1 : (onceZ (ns.take i)).length < 1000 := by have := onceZ_len (ns.take i); rw [List.length_take] at this; omega
    refine wpAny_setAdd_int (s := { s' with toks := s'.toks + 1 }) x hl1 fun b h' es' ep' t' hsb x' => ?_
    refine hq' h' _ _ hsb ⟨es', ep', t', ?_⟩
    rw [onceZ_take hn]; exact x'
  · rintro h' tk ⟨es, ep, t, x⟩ hk
    have hsz : its.toArray.size = ns.length := by rw [List.size_toArray, hlen]
    rw [hsz, List.take_length] at x
    refine ⟨.ref s.heap.objs.size, _, I.laid (t' := tk) (fun b o e => ?_) (Nat.le_refl _) (isZ_ok (w' := X.w) ⟨es, ep, t, x⟩), rfl, q _ (I.hok.fresh (Nat.le_refl _))⟩
    have hb := Heap.lt_size e
    refine hk b o ?_ (Nat.ne_of_lt hb) (Heap.get?_push_of_some _ e)
    show b < (s.heap.push (newSetO (!byTx X.w))).objs.size
    rw [Heap.size_push]; exact Nat.lt_succ_of_lt hb
def rSortZ (X : Cx) : List V → Hp → VK → Prop := fun xs H Q => ∃ (a : Addr) (ns : List Int), xs = [.ref a] ∧ H a = some (SetZ X.w a ns) ∧ ns.length < 64 ∧ ∀ (l : Addr) (ns' : List Int), ns'.Perm ns → ns'.Pairwise (· ≤ ·) → H l = none → Q (.ref l) (upd H l (.lst (ns'.map V.int)))
theorem call_sorted_z (hc : X.calm = true) : CallR X (.builtin "sorted") (rSortZ X) := by
  intro pins s σ H xs us Q I r h
  obtain ⟨a, ns, rfl, e, z, q⟩ := h
  obtain ⟨u, rfl, ru⟩ := vals1 r
  cases ru
  obtain ⟨⟨es, ep, t, x⟩, _⟩ := (show ObjOk X.prog X.w H s.heap a (SetZ X.w a ns) from I.hok a _ e)
  have hsz : es.size = ns.length := by have := x.pm.length_eq; simpa using this
  have hz : (wlk X.w a ep es).size = es.size := by rw [← Array.length_toList, (wlk_perm X.w a ep es).length_eq, Array.length_toList]
  have hpm : ((wlk X.w a ep es).toList.map ivv).Perm ns := ((wlk_perm X.w a ep es).map ivv).trans x.pm
  refine si_sortedI (ms := (wlk X.w a ep es).toList.map ivv) (I.ok.hd hc) x (by omega) (fun vs hl hv => ints_of_vals ?_) fun D h' tk out ns' c hD kp e' so hp hss => ?_
  · refine vals_by (by rw [hl, List.length_map, List.length_map, Array.length_toList, hz]) fun i u y e1 e2 => ?_
    obtain ⟨w0, ew, rfl⟩ := hv i u e1
    rw [List.getElem?_map, List.getElem?_map, Array.getElem?_toList, ew] at e2
    cases e2
    have hm : w0 ∈ es.toList := (wlk_perm X.w a ep es).mem_iff.mp (by rw [Array.mem_toList_iff]; exact Array.mem_of_getElem? ew)
    obtain ⟨n, u, rfl⟩ := x.el w0 hm
    exact ⟨u, rfl⟩
  · have hn : H D = none := I.hok.fresh hD
    have hp2 := hp.trans hpm
    exact ⟨.ref D, _, I.laid (t' := tk) (o := .lst (ns'.map V.int)) kp hD ⟨by rw [List.length_map, hp2.length_eq]; exact Nat.le_trans (Nat.le_of_lt z) (by decide), out, c, vals_of_ints so, e'⟩, rfl, q D ns' hp2 hss hn⟩
end
end L3

/-! list(reversed(l)), l a list. -/
namespace L3
open PySem PySem.Spec PyProof.Rows L2 PySem.W
section
variable {prog : Program} {w : World} {A : Around} {E : Value → Shared → Prop} {s : Shared} {it l : Addr} {items : Array Value}
theorem rv_nolen : typeLookup (.type "list_reverseiterator") "__len__" = pure none := by rw [typeLookup_type, builtinLookup_eq_fast]; kernel_rfl
theorem rv_hint : typeLookup (.type "list_reverseiterator") "__length_hint__" = pure (some (.builtin "list_reverseiterator.__length_hint__")) := by rw [typeLookup_type, builtinLookup_eq_fast]; kernel_rfl
abbrev RvAt (it l : Addr) (items : Array Value) (i : Nat) (h : Heap) : Prop := i ≤ items.size ∧ h.IsRevIter it l ((items.size : Int) - 1 - (i : Int)) ∧ h.IsList l items
abbrev RvP (items : Array Value) : Nat → Value → Prop := fun i v => items[items.size - 1 - i]? = some v
theorem rv_extend {R : Result → Shared → Prop} (hh : A.handled = none) (hne : l ≠ it) (st : RvAt it l items 0 s.heap) (S : Addr) (hSi : S ≠ it) (hSl : S ≠ l) (c₀ : Nat) (hS : s.heap.get? S = some { cls := .type "list", data := .seq #[] c₀ })
    (hR : ∀ h' tk acc' c', (∀ b o, b ≠ S → b ≠ it → s.heap.get? b = some o → h'.get? b = some o) → h'.get? S = some { cls := .type "list", dict := none, data := .seq acc' c', slots := #[] } → ItemsOf (RvP items) acc' items.size → R (.ok (.ret .none)) { s with heap := h', toks := tk }) (hn : items.size ≤ sizeLine) :
    wpAny (model prog w) A.in1 (Builtin.List.listExtendWith (.ref S) (.ref it) .none)
      (fun fin s' => match fin with | .done f => R (.ok f) s' | .again c' => c'.quiet = true ∧ codeAny (model prog w) A c' R s') (fun e s' => R (.error e) s') s := by
  have hSf : S ∉ [it, l] := by simp only [List.mem_cons, List.not_mem_nil, or_false, not_or]; exact ⟨hSi, hSl⟩
  have W := Walks.listRev (prog := prog) (w := w) (A := A.in1) hh it l hne items
  have ty := st.2.1.typeIs (s := s)
  unfold Builtin.List.listExtendWith
  refine wpAny_bind (wpAny_typeOf (T := "list_reverseiterator") ty ?_)
  have h1 : Builtin.List.listSameRef (.ref S) (.ref it) = false := by simp [Builtin.List.listSameRef, hSi]
  rw [if_neg (by rw [h1]; decide)]
  refine wpAny_bind (wpAny_pyIter_revIter st.2.1 ?_)
  refine wpAny_bind (wpAny_holding ?_)
  unfold Builtin.List.listLengthHint
  refine wpAny_bind (wpAny_specialOf ty rv_nolen ?_)
  show wpAny _ A.in1 (specialOf (Value.ref it) (Str.ofString "__length_hint__") >>= _) _ _ _
  refine wpAny_bind (wpAny_specialOf ty rv_hint ?_)
  (generalize hid : ("list_reverseiterator.__length_hint__" : String) = id0; (fail_if_success (clear hid id0)); wp_delta; rw [show splitId id0 = some ("list_reverseiterator", "__length_hint__") from by subst hid; decide +kernel]; subst hid)
  refine wpAny_bind (wpAny_isInstance (b := true) ty (by rw [isSubtype_type]; kernel_rfl) ?_)
  refine wpAny_pure ?_
  rw [if_neg (by decide)]
  refine wpAny_pure ⟨plainId_quiet PySem.F.plain_extend_loop _, codeAny_extend_loopS W.toS hn S hSf _ items.size 0 _ #[] c₀ rfl (Nat.zero_le _) st hS (ItemsOf.nil _) fun s' acc' c' hm hS' hacc => ?_⟩
  rw [Moved.eq_with hm]
  refine hR s'.heap s'.toks acc' c' (fun b o hb hi e => hm.heap b o (fun hmem => ?_) e) hS' hacc
  rcases List.mem_cons.mp hmem with e' | hmem
  · exact hb e'
  · exact hi (List.mem_singleton.mp hmem)
theorem rv_init {R : Result → Shared → Prop} (hh : A.handled = none) (hne : l ≠ it) (st : RvAt it l items 0 s.heap) (S : Addr) (hSi : S ≠ it) (hSl : S ≠ l) (hS : s.heap.get? S = some { cls := .type "list", data := .seq #[] })
    (hR : ∀ h' tk acc' c', (∀ b o, b ≠ S → b ≠ it → s.heap.get? b = some o → h'.get? b = some o) → h'.get? S = some { cls := .type "list", dict := none, data := .seq acc' c', slots := #[] } → ItemsOf (RvP items) acc' items.size → R (.ok (.ret .none)) { s with heap := h', toks := tk }) (hn : items.size ≤ sizeLine) :
    wpAny (model prog w) A.in1 (Builtin.«list.__init__» ⟨[.ref S, .ref it], []⟩)
      (fun fin s' => match fin with | .done f => R (.ok f) s' | .again c' => c'.quiet = true ∧ codeAny (model prog w) A c' R s') (fun e s' => R (.error e) s') s := by
  show wpAny _ _ (do let old ← Builtin.List.listItems (.ref S); Builtin.List.listUpdate (.ref S) (fun _ => #[]); letGo old.toList.reverse; Builtin.List.listExtendWith (.ref S) (.ref it) .none) _ _ s
  refine wpAny_bind ?_
  unfold Builtin.List.listItems
  refine wpAny_bind (wpAny_seqItems hS rfl (wpAny_pure ?_))
  show wpAny _ _ (updateSeq S (fun _ => #[]) >>= fun _ => letGo (#[] : Array Value).toList.reverse >>= fun _ => Builtin.List.listExtendWith (.ref S) (.ref it) .none) _ _ s
  refine wpAny_bind (wpAny_updateSeq hS rfl ?_)
  have hS₂ := Heap.get?_update_self (Obj.mapSeq (fun _ => (#[] : Array Value))) hS rfl
  have oth : ∀ b o, b ≠ S → s.heap.get? b = some o → (s.heap.update S (Obj.mapSeq (fun _ => (#[] : Array Value)))).get? b = some o :=
    fun b o hb e => (Heap.get?_update_other _ _ (Ne.symm hb)).trans e
  refine wpAny_bind (wpAny_letGo ?_)
  refine rv_extend hh hne ⟨st.1, st.2.1.at fun o e => oth it o hSi.symm e, st.2.2.at fun o e => oth l o hSl.symm e⟩ S hSi hSl _ hS₂ (fun h' tk acc' c' hk hS' hacc => ?_) hn
  exact hR h' tk acc' c' (fun b o hb hi e => hk b o hb hi (oth b o hb e)) hS' hacc
theorem rv_call {Q : Value → Shared → Prop} (hh : A.handled = none) (hne : l ≠ it) (st : RvAt it l items 0 s.heap) (hn : items.size ≤ sizeLine)
    (hQ : ∀ h' tk acc' c', (∀ b o, b ≠ it → s.heap.get? b = some o → h'.get? b = some o) → h'.get? s.heap.objs.size = some { cls := .type "list", dict := none, data := .seq acc' c', slots := #[] } → ItemsOf (RvP items) acc' items.size → Q (.ref s.heap.objs.size) { s with heap := h', toks := tk }) :
    wpAny (model prog w) A (call (.type "list") [.ref it]) Q E s := by
  refine callType_codes (Q₁ := fun obj s₁ => obj = .ref s.heap.objs.size ∧ s₁ = { s with heap := s.heap.push { cls := .type "list", data := .seq #[] } }) PySem.F.called_list (PySem.F.typeCall_list_1 _) PySem.F.entry_list_init
    (code_list_new _ ⟨rfl, rfl⟩) fun obj s₁ h₁ => ?_
  obtain ⟨rfl, rfl⟩ := h₁
  have hS : (s.heap.push { cls := .type "list", data := .seq #[] }).get? s.heap.objs.size = some { cls := .type "list", data := .seq #[] } := Heap.get?_push_size _ rfl
  obtain ⟨oi, ei, _⟩ := id st.2.1
  obtain ⟨ol, el, _⟩ := id st.2.2
  refine ⟨⟨_, hS, rfl⟩, PySem.F.args_list_init_2 _ _, rv_init (A := A.in1) hh hne ⟨st.1, st.2.1.at fun o e => Heap.get?_push_of_some _ e, st.2.2.at fun o e => Heap.get?_push_of_some _ e⟩ _ (Nat.ne_of_gt (Heap.lt_size ei)) (Nat.ne_of_gt (Heap.lt_size el)) hS (fun h' tk acc' c' hk hS' hacc => ?_) hn⟩
  exact ⟨rfl, hQ h' tk acc' c' (fun b o hb e => hk b o (Nat.ne_of_lt (Heap.lt_size e)) hb (Heap.get?_push_of_some _ e)) hS' hacc⟩
end
section
variable {X : Cx}
theorem bt_reversed : bootBuiltins "reversed" = some (.type "reversed") := by decide +kernel
theorem bt_list' : bootBuiltins "list" = some (.type "list") := by decide +kernel
def tLR (te : TE) : TE := fun σ H Q => te σ H fun v H1 => ∃ l ys, v = .ref l ∧ H1 l = some (.lst ys) ∧ ∀ p, H1 p = none → Q (.ref p) (upd H1 p (.lst ys.reverse))
theorem pe_listrev {e : Expr} {te : TE} {p p2 pos pos2 : Pos} (hc : X.calm = true) (hg : Gl X "list") (hm : X.mg "list" = none) (hg2 : Gl X "reversed") (hm2 : X.mg "reversed" = none) (hx : PE X e te)
    (hs : starEach [.Call (.Name "reversed" p2) [e] [] pos2] X.env = [(false, eval (.Call (.Name "reversed" p2) [e] [] pos2) X.env)] := by rfl) (hs2 : starEach [e] X.env = [(false, eval e X.env)] := by rfl) :
    PE X (.Call (.Name "list" p) [.Call (.Name "reversed" p2) [e] [] pos2] [] pos) (tLR te) := by
  intro pins s σ H Q I h
  refine Call_ (ld_blt I hg hm bt_list' (PyProof.Rows.callWith_type1 ?_ hs rfl))
  rw [hs]
  show wpAny _ _ (spliced [(false, eval (.Call (.Name "reversed" p2) [e] [] pos2) X.env)]) _ _ s
  refine Calls.spliced_cons ?_
  let Q' : List V → Hp → Prop := fun vs H1 => match vs with
    | [v] => ∃ l ys, v = .ref l ∧ H1 l = some (.lst ys) ∧ ∀ p, H1 p = none → Q (.ref p) (upd H1 p (.lst ys.reverse))
    | _ => False
  refine Call_ (ld_blt I hg2 hm2 bt_reversed (PyProof.Rows.callWith_type1 (thn (pa_cons hx pa_nil hs2 pos2 pins s σ H Q' I h) fun us s1 ⟨vs, H1, I1, r1, q1⟩ => ?_) hs2 rfl))
  cases r1 with
  | nil => exact absurd q1 id
  | cons r rr =>
    cases rr with
    | cons _ _ => exact absurd q1 id
    | nil =>
      obtain ⟨l, ys, rfl, hl, q⟩ := q1
      cases r
      obtain ⟨its, rv, pL, hz⟩ := I1.list (SqL.of hl)
      have hlen := rv.length
      have ll : l < s1.heap.objs.size := by obtain ⟨o, e, _⟩ := pL.isList; exact Heap.lt_size e
      refine call_reversed_list pL.isList ?_
      refine Calls.spliced_nil ?_
      have hit : (s1.heap.push (revObj l ((its.toArray.size : Int) - 1))).IsRevIter s1.heap.objs.size l ((its.toArray.size : Int) - 1 - ((0 : Nat) : Int)) := by
        have e0 : (its.toArray.size : Int) - 1 - ((0 : Nat) : Int) = (its.toArray.size : Int) - 1 := by omega
        rw [e0]; exact ⟨_, Heap.get?_push_size _ rfl, rfl, rfl⟩
      refine rv_call (items := its.toArray) (l := l) (I1.ok.hd hc) (Nat.ne_of_lt ll) ⟨Nat.zero_le _, hit, pL.isList.at fun o e => Heap.get?_push_of_some _ e⟩ (by simp; omega) fun h' tk acc c kp e' itm => ?_
      have hsz : (s1.heap.push (revObj l ((its.toArray.size : Int) - 1))).objs.size = s1.heap.objs.size + 1 := Heap.size_push ..
      refine ⟨.ref _, _, I1.laid (t' := tk) (o := .lst ys.reverse) (fun b u z => kp b u (Nat.ne_of_lt (Heap.lt_size z)) (Heap.get?_push_of_some _ z)) (by rw [hsz]; omega) ⟨by rw [List.length_reverse]; exact hz, acc.toList, c, vals_by (by rw [Array.length_toList, itm.1, List.length_reverse, hlen]; simp) fun i u y e1 e2 => ?_, by rw [Array.toArray_toList]; exact e'⟩, rfl, q _ (I1.hok.fresh (by rw [hsz]; omega))⟩
      have hu := itm.2 i u (by rw [← Array.getElem?_toList]; exact e1)
      have hi : i < ys.length := by
        have := (List.getElem?_eq_some_iff.mp e2).1
        rwa [List.length_reverse] at this
      rw [List.getElem?_reverse hi] at e2
      obtain ⟨u', hu', ru⟩ := rv.get e2
      have hsize : its.toArray.size = ys.length := by simp [hlen]
      replace hu : its.toArray[its.toArray.size - 1 - i]? = some u := hu
      rw [hsize] at hu
      have hu2 : its[ys.length - 1 - i]? = some u := by simpa using hu
      rw [hu2] at hu'
      injection hu' with hu'
      rw [hu']; exact ru
end
end L3

/-! for over reversed(x), x a text. -/
namespace L3
open PySem PySem.Spec PyProof.Rows L2 PySem.W
namespace RT
theorem owner_rv : Manifest.owners.lookup (String.ofList ['d', 'e', 's', 'r', 'e', 'v', 'e', 'r'].reverse) = some Manifest.sig_reversed := by kernel_rfl
theorem slot_next : Slot "reversed" "__next__" "reversed.__next__" :=
  .of (owner := "reversed") (n := "__next__") (by rw [typeLookup_type, builtinLookup_eq_fast]; kernel_rfl) (by decide +kernel) (by decide +kernel) (by decide +kernel)
    (by first | exact .inl (by decide +kernel) | exact .inr (by decide +kernel)) (by rw [isSubtype_type]; kernel_rfl)
theorem entry_next : entryFor table "reversed.__next__" = some Builtin.«reversed.__next__» := entryFor_of_tree (by kernel_rfl)
theorem args_next (a : Value) : argsOk "reversed.__next__" ⟨[a], []⟩ := by
  unfold argsOk; rw [signature?_of (id := "reversed.__next__") (n := ['_', '_', 't', 'x', 'e', 'n', '_', '_']) (o := ['d', 'e', 's', 'r', 'e', 'v', 'e', 'r']) (by kernel_rfl) owner_rv]; kernel_rfl
theorem slot_iter : Slot "reversed" "__iter__" "reversed.__iter__" :=
  .of (owner := "reversed") (n := "__iter__") (by rw [typeLookup_type, builtinLookup_eq_fast]; kernel_rfl) (by decide +kernel) (by decide +kernel) (by decide +kernel)
    (by first | exact .inl (by decide +kernel) | exact .inr (by decide +kernel)) (by rw [isSubtype_type]; kernel_rfl)
theorem args_iter (a : Value) : argsOk "reversed.__iter__" ⟨[a], []⟩ := by
  unfold argsOk; rw [signature?_of (id := "reversed.__iter__") (n := ['_', '_', 'r', 'e', 't', 'i', '_', '_']) (o := ['d', 'e', 's', 'r', 'e', 'v', 'e', 'r']) (by kernel_rfl) owner_rv]; kernel_rfl
theorem entry_iter : entryFor table "reversed.__iter__" = some Builtin.«dict_keyiterator.__iter__» :=
  entryFor_alias (id' := "dict_keyiterator.__iter__") (by kernel_rfl) (by first | rfl | decide +kernel | (unfold String.splitOn; simp +decide [String.splitOnAux])) (by decide +kernel) (by kernel_rfl)
theorem slot_init : Slot "reversed" "__init__" "object.__init__" :=
  .of (owner := "object") (n := "__init__") (by rw [typeLookup_type, builtinLookup_eq_fast]; kernel_rfl) (by decide +kernel) (by decide +kernel) (by decide +kernel)
    (by first | exact .inl (by decide +kernel) | exact .inr (by decide +kernel)) (by rw [isSubtype_type]; kernel_rfl)
theorem called : TypeCalled "reversed" "reversed.__new__" "object.__init__" :=
  ⟨by decide +kernel, by decide +kernel, ⟨_, _, F.mro_reversed⟩, F.made_reversed, by decide +kernel, by rw [isSubtype_type]; kernel_rfl, slot_init⟩
theorem no_rev : typeLookup (.type "str") "__reversed__" = pure none := by rw [typeLookup_type, builtinLookup_eq_fast]; kernel_rfl
theorem no_dict : isSubtype (.type "str") (.type "dict") = pure false := by rw [isSubtype_type]; kernel_rfl
end RT
def rvtObj (x : Str) (t : Tok) (i : Int) : Obj := { cls := .type "reversed", data := .fields #[.str x t, rawInt i] }
section
variable {prog : Program} {w : World} {A : Around} {E : Value → Shared → Prop} {s : Shared} {it : Addr} {x : Str} {t : Tok}
theorem rvt_new {Q : Value → Shared → Prop} (hf : ¬ (x.length : Int) ≥ 2 ^ 63) (h : ∀ tk, Q (.ref s.heap.objs.size) { s with heap := s.heap.push (rvtObj x t ((x.length : Int) - 1)), toks := tk }) :
    wpAny (model prog w) A (call (.type "reversed") [.str x t]) Q E s := by
  refine callType_new RT.called (by decide) (F.typeCall_reversed_1 _) (F.newCall_reversed_1 _) (fun obj => F.args_object_init_2 obj _) F.entry_reversed_new (S := fun _ R s => ∀ tk, R (.ok (.ret (.ref s.heap.objs.size))) { s with heap := s.heap.push (rvtObj x t ((x.length : Int) - 1)), toks := tk }) ?_ fun tk => ⟨⟨_, Heap.get?_push_size _ rfl, rfl⟩, h tk⟩
  refine .of_wp fun prog w A R s h => ?_
  unfold Builtin.«reversed.__new__»
  refine wpAny_bind (wpAny_of_eq (newClass_reversed _) ?_)
  try dsimp only
  refine wpAny_bind (wpAny_of_eq (a := ()) (by first | rfl | kernel_rfl) ?_)
  refine wpAny_bind (wpAny_of_eq (a := ()) (by first | rfl | kernel_rfl) ?_)
  try dsimp only
  refine wpAny_bind (wpAny_specialOf (typeIs_str s x t) RT.no_rev ?_)
  try dsimp only
  refine wpAny_bind ?_
  refine wpAny_bind (wpAny_isInstance (b := false) (typeIs_str s x t) RT.no_dict ?_)
  try dsimp only
  refine wpAny_bind (wpAny_specialOf (typeIs_str s x t) F.slot_str_getitem.lookup ?_)
  try dsimp only
  rw [if_pos (by decide +kernel)]
  refine wpAny_pure ?_
  try dsimp only
  rw [if_neg (by decide)]
  refine wpAny_bind (P.len_str hf ?_)
  refine wpAny_bind (wpAny_of_eq (a := some (x.length : Int)) rfl ?_)
  try dsimp only
  show wpAny _ _ (newObj (.type "reversed") (.fields #[.str x t, rawInt ((x.length : Int) - 1)]) >>= _) _ _ _
  refine wpAny_bind (wpAny_newObj_type ?_ (by size_fits))
  exact wpAny_pure ⟨_, rfl, h _⟩
abbrev RvtAt (it : Addr) (x : Str) (t : Tok) (i : Nat) (h : Heap) : Prop := i ≤ x.cps.size ∧ h.get? it = some (rvtObj x t ((x.cps.size : Int) - 1 - (i : Int)))
theorem rvt_item {i c : Nat} {Q : Option Value → Shared → Prop} (hn : x.cps.size ≤ 1000000) (st : RvtAt it x t i s.heap) (hx : x.cps.reverse[i]? = some c)
    (hQ : ∀ h' tk u, RvtAt it x t (i + 1) h' → Heap.SameBut it s.heap h' → Q (some (.str ⟨#[c]⟩ u)) { s with heap := h', toks := tk }) : wpAny (model prog w) A (pyNext (.ref it)) Q E s := by
  obtain ⟨hi, ho⟩ := st
  have ty : s.TypeIs (.ref it) "reversed" := ⟨_, ho, rfl⟩
  have lt : i < x.cps.size := by
    have := (Array.getElem?_eq_some_iff.mp hx).1
    rwa [Array.size_reverse] at this
  rw [Array.getElem?_reverse lt] at hx
  obtain ⟨k, ek⟩ : ∃ k : Nat, k = x.cps.size - 1 - i := ⟨_, rfl⟩
  have eki : (x.cps.size : Int) - 1 - (i : Int) = (k : Int) := by omega
  rw [eki] at ho
  rw [← ek] at hx
  have hd : (rvtObj x t (k : Int)).data = .fields #[.str x t, rawInt (k : Int)] := rfl
  unfold pyNext
  refine wpAny_bind (wpAny_attempt (wpAny_callSpecial?_slot (name := Str.ofString "__next__") ty RT.slot_next (wpAny_call_entry RT.slot_next ty RT.entry_next ?_ (RT.args_next _))))
  unfold Builtin.«reversed.__next__»
  refine wpAny_bind (wpAny_of_eq (a := (Value.ref it, [])) rfl ?_)
  try dsimp only
  refine wpAny_bind (wpAny_field ho hd (x := .str x t) rfl ?_)
  refine wpAny_bind (wpAny_field ho hd (x := rawInt (k : Int)) rfl ?_)
  show wpAny _ _ (if (k : Int) < 0 then _ else _) _ _ s
  rw [if_neg (by omega)]
  refine wpAny_bind (wpAny_specialOf (typeIs_str s x t) F.slot_str_getitem.lookup ?_)
  try dsimp only
  rw [if_neg (by decide)]
  refine wpAny_bind (wpAny_mkInt ?_)
  refine wpAny_bind (wpAny_attempt (P.getItem_str (c := c) (by simp; omega) ?_ ?_))
  · have : seqIndex? (k : Int) x.length = some k := by
      unfold seqIndex? Str.length
      simp
      omega
    rw [this]; exact hx
  try dsimp only
  refine wpAny_bind (wpAny_field ho hd (x := rawInt (k : Int)) rfl ?_)
  try dsimp only
  show wpAny _ _ (setField (.ref it) 1 (rawInt ((k : Int) - 1)) >>= fun _ => _) _ _ _
  refine wpAny_bind (wpAny_setField ho hd (by simp) ?_)
  refine wpAny_pure ⟨_, rfl, wpAny_pure (hQ _ _ _ ⟨lt, ?_⟩ (Heap.SameBut.update ..))⟩
  have e2 : (x.cps.size : Int) - 1 - ((i + 1 : Nat) : Int) = (k : Int) - 1 := by omega
  rw [e2]
  exact Heap.get?_update_self _ ho rfl
theorem rvt_end {i : Nat} {Q : Option Value → Shared → Prop} (hh : A.handled = none) (st : RvtAt it x t i s.heap) (hx : x.cps.size ≤ i)
    (hQ : ∀ h', Heap.ExtBut it s.heap h' → Q none { s with heap := h' }) : wpAny (model prog w) A (pyNext (.ref it)) Q E s := by
  obtain ⟨hi, ho⟩ := st
  have ty : s.TypeIs (.ref it) "reversed" := ⟨_, ho, rfl⟩
  have eki : (x.cps.size : Int) - 1 - (i : Int) = -1 := by omega
  rw [eki] at ho
  have hd : (rvtObj x t (-1)).data = .fields #[.str x t, rawInt (-1)] := rfl
  unfold pyNext
  refine wpAny_bind (wpAny_attempt (wpAny_callSpecial?_slot (name := Str.ofString "__next__") ty RT.slot_next (wpAny_call_entry RT.slot_next ty RT.entry_next ?_ (RT.args_next _))))
  unfold Builtin.«reversed.__next__»
  refine wpAny_bind (wpAny_of_eq (a := (Value.ref it, [])) rfl ?_)
  try dsimp only
  refine wpAny_bind (wpAny_field ho hd (x := .str x t) rfl ?_)
  refine wpAny_bind (wpAny_field ho hd (x := rawInt (-1)) rfl ?_)
  show wpAny _ _ (if (-1 : Int) < 0 then _ else _) _ _ s
  rw [if_pos (by decide)]
  refine wpAny_bind (wpAny_rule ?_)
  refine wpAny_bind ?_
  refine wpAny_bind (wpAny_setField ho hd (by simp) ?_)
  refine wpAny_setField (Heap.get?_update_self _ ho rfl) (Obj.data_mapFields hd _) (by simp) ?_
  first
  | show wpAny _ _ (newExc (.type "StopIteration") [] >>= _) _ _ _
  | (refine wpAny_bind ?_; show wpAny _ _ (newExc (.type "StopIteration") [] >>= _) _ _ _)
  refine wpAny_bind ?_
  simp only [newExc, newTuple]
  refine wpAny_bind (wpAny_newObj_type ?_ (by size_fits))
  refine wpAny_bind (m := firstArgMember _ _) (wpAny_of_eq (a := Value.none) (by first | rfl | (simp only [firstArgMember]; rfl)) ?_)
  refine wpAny_newObj_type ?_ (by size_fits)
  simp only [raiseNew]
  refine wpAny_bind (wpAny_handled ?_)
  first | rw [show A.in1.handled = none from hh] | rw [hh]
  refine wpAny_bind (wpAny_pure (wpAny_throw ?_))
  refine wpAny_bind (wpAny_isInstance (T := "StopIteration") (b := true) ⟨_, Heap.get?_push_size _ rfl, rfl⟩ isSubtype_stop ?_)
  exact wpAny_pure (hQ _ ((((Heap.SameBut.update ..).extBut.trans (Heap.SameBut.update ..).extBut).push _).push _))
theorem rvt_iter {o : Obj} {Q : Value → Shared → Prop} (ho : s.heap.get? it = some o) (hc : o.cls = .type "reversed") (h : Q (.ref it) s) : wpAny (model prog w) A (pyIter (.ref it)) Q E s := by
  have ty : s.TypeIs (.ref it) "reversed" := ⟨_, ho, hc⟩
  refine wpAny_pyIter_slot ty RT.slot_iter (wpAny_call_entry RT.slot_iter ty RT.entry_iter ?_ (RT.args_iter _))
  show wpAny _ _ (ret (.ref it)) _ _ s
  exact wpAny_pure ⟨_, rfl, "reversed", _, ty, RT.slot_next.lookup, h⟩
end
theorem turn_rvt {P : Program} {w : World} {K : PySem.W.Frag} {tg : Expr} (it : Addr) (x : Str) (t : Tok) (hn : x.cps.size ≤ 1000000) : Turn P w K tg (Its ⟨x.cps.reverse⟩) [it] it (fun i h => RvtAt it x t i h) where
  mem := by simp
  obj := fun i h st b hb => by
    have e : b = it := by simpa using hb
    subst e
    exact ⟨_, st.2, fun v z => by cases z⟩
  keep := fun i h h' st k => ⟨st.1, k it (by simp) _ st.2⟩
  item := by
    intro X hP hw hK hc i pins s σ H E I hf st hg
    subst hP hw hK
    obtain ⟨f0, f1, f2, f3, f4, f5⟩ := hf it (by simp)
    replace hg : i < x.cps.reverse.size := hg
    have hcx : x.cps.reverse[i]? = some x.cps.reverse[i] := Array.getElem?_eq_getElem hg
    refine rvt_item hn st hcx fun h' tk u st' kk => ?_
    have I1 : Inv X pins σ H { s with heap := h', toks := tk } := I.turned (fun b o hb e => kk.extBut b o hb e) f0 f1 f3 f4 f5
    exact ⟨_, rfl, go_of (s := { s with heap := h', toks := tk }) st'.2 rfl rfl (by decide) ⟨.str ⟨#[_]⟩, H, I1, ⟨u, rfl⟩, ⟨rfl, _, hcx, rfl⟩, st', fun b hb => (hf b hb).1⟩⟩
  done := by
    intro X hP hw hK hc i pins s σ H E I hf st hg
    subst hP hw hK
    obtain ⟨f0, f1, f2, f3, f4, f5⟩ := hf it (by simp)
    replace hg : x.cps.reverse.size ≤ i := hg
    rw [Array.size_reverse] at hg
    exact rvt_end (I.ok.hd hc) st hg fun h' eb => ⟨rfl, I.turned (t' := s.toks) (fun b o hb e => eb b o hb e) f0 f1 f3 f4 f5⟩
  self := fun _ _ _ _ _ st h => rvt_iter st.2 rfl h
section
variable {X : Cx} {tg : Expr}
def iRvT (ta : TA) : TI := fun σ H R => ta σ H fun vs H1 => ∃ z : Str, vs = [.str z] ∧ z.cps.size ≤ 1000000 ∧ R (Its ⟨z.cps.reverse⟩) H1
theorem pi_rvt {l : Expr} {ta : TA} {p pos : Pos} (hg : Gl X "reversed") (hm : X.mg "reversed" = none) (ha : PA X [l] ta) (hs : starEach [l] X.env = [(false, eval l X.env)] := by rfl) :
    PI X tg (.Call (.Name "reversed" p) [l] [] pos) (iRvT ta) := by
  intro pins s σ H R I h
  refine Call_ (ld_blt I hg hm bt_reversed (PyProof.Rows.callWith_type1 (thn (ha pos pins s σ H _ I h) fun us s1 ⟨vs, H1, I1, r1, q1⟩ => ?_) hs rfl))
  obtain ⟨z, rfl, hn, q⟩ := q1
  cases r1 with
  | cons r rr =>
    cases rr
    obtain ⟨t, rfl⟩ := r
    refine rvt_new (by rw [Str.length]; omega) fun tk => ?_
    refine rvt_iter (Heap.get?_push_size _ rfl) rfl ?_
    refine ⟨s1.heap.objs.size, [s1.heap.objs.size], _, _, H1, rfl, I1.kept (t' := tk) fun b o e => Heap.get?_push_of_some _ e, turn_rvt _ z t hn, ⟨Nat.zero_le _, ?_⟩, fun b hb => ?_, q⟩
    · have e0 : (z.cps.size : Int) - 1 - ((0 : Nat) : Int) = (z.length : Int) - 1 := by rw [Str.length]; omega
      rw [e0]; exact Heap.get?_push_size _ rfl
    · have e : b = s1.heap.objs.size := by simpa using hb
      subst e
      exact I1.fpOk (Nat.le_refl _) (I1.hok.fresh (Nat.le_refl _))
end
end L3

/-! the fragment named outright, everywhere: the readings are shorter so. -/
namespace L3
open PySem PySem.Spec PyProof.Rows L2
theorem kPI {X : Cx} {K : PySem.W.Frag} {tg it : Expr} (f : PySem.W.Frag → TI) (h : PI X tg it (f X.K)) (e : X.K = K := by rfl) : PI X tg it (f K) := e ▸ h
theorem kPE {X : Cx} {K : PySem.W.Frag} {ex : Expr} (f : PySem.W.Frag → TE) (h : PE X ex (f X.K)) (e : X.K = K := by rfl) : PE X ex (f K) := e ▸ h
theorem kPG {X : Cx} {K : PySem.W.Frag} {tg : Expr} (f : PySem.W.Frag → TG) (h : PG X tg (f X.K)) (e : X.K = K := by rfl) : PG X tg (f K) := e ▸ h
theorem kCall {X : Cx} {K : PySem.W.Frag} {f : Value} (r : PySem.W.Frag → List V → Hp → VK → Prop) (h : CallR X f (r X.K)) (e : X.K = K := by rfl) : CallR X f (r K) := e ▸ h
def rLo (K : PySem.W.Frag) : List V → Hp → VK → Prop := fun xs H Q => ∃ p ys, xs = [.ref p] ∧ (SqL K H p ys ∨ SqT K H p ys) ∧ ∀ l, H l = none → Q (.ref l) (upd H l (.lst ys))
def rIs (K : PySem.W.Frag) : List V → Hp → VK → Prop := fun xs H Q => ∃ x T t b, xs = [x, .ty T] ∧ TyOf K H x t ∧ PySem.W.kitOne K t (.type T) = some b ∧ Q (.bl b) H
def rIsD (K : PySem.W.Frag) : List V → Hp → VK → Prop := fun xs H Q => ∃ x d T, xs = [x, .ty T] ∧ Rep K H d x ∧ (T = "tuple" ∨ T = "int" ∨ T = "bool" ∨ T = "str" ∨ T = "list") ∧ Q (.bl (isT d T)) H
end L3

namespace My
open PySem PySem.Spec PyProof.Rows L2 L3
def top (i : Nat) : Stmt := PySem.Challenge.pw_earlyscribe_k93_first_ways.main.body.getD i (.Pass ⟨0, 0, 0, 0⟩)
end My
lay_quick PySem.Challenge.pw_earlyscribe_k93_first_ways
namespace My
open PySem PySem.W PyProof.Rows L2 L3
abbrev fob (x : Str) (st : Stmt) (oc : Value) (od : Option Addr) (kV dc pm : Value) (an : Option Addr) (cd ct : Value) (sl : Array (Option Value)) : Obj := ⟨oc, od, .func (fnOf x x (defArgs st) (defBody st) (defScope st) .none kV dc pm an cd ct), sl⟩
abbrev de (P : Params) (x : Str) (t : Tok) (v : Value) : DictEntry := ⟨PySem.PyData.keyHash P x, .str x t, v⟩
abbrev cob (x : Str) (a b c : Tok) (l n : Int) (r r2 v1 v2 v3 v4 : Value) (n6 : Int) (c2 : Tok) : Obj := ⟨.type "code", none, .fields #[.str x a, .str x b, .str "/claim/cut.py" c, .int l 0, .int n 0, .int 0 0, .int 0 0, .int 3 0, r, .bool true, .int 181 0, r2, v1, v2, v3, v4, .int n6 0, .int l 0, .str "/claim/cut.py" c2], #[]⟩
noncomputable def ko2 (P : Params) : Obj := ⟨.none, none, (.dict #[] 0), #[]⟩
noncomputable def ko3 (P : Params) : Obj := ⟨(.type "dict"), none, (.dict #[de P "__name__" 165 (.str "law_earlyscribe_k93_first_ways" 351), de P "__doc__" 166 .none, de P "__package__" 167 .none, de P "__loader__" 168 (.builtin "__main__.__loader__#opaque"), de P "__spec__" 169 .none, de P "__annotations__" 170 (.ref 6), de P "__builtins__" 171 (.ref 4), de P "__file__" 173 (.str "/claim/cut.py" 172), de P "__cached__" 174 .none, de P "ScribeError" 206 (.ref 24), de P "NoWay" 222 (.ref 37), de P "BEGINS" 226 (.int 2 225), de P "STEPS" 228 (.int 3 227), de P "ENDS" 230 (.int 4 229), de P "part_at" 238 (.ref 46), de P "walked_by" 253 (.ref 53), de P "INTO" 255 (.int 3 254), de P "each_once" 266 (.ref 60), de P "starts_by_goal" 274 (.ref 65), de P "rooms_ahead" 286 (.ref 72), de P "rooms_with_ends" 292 (.ref 77), de P "rooms_that_lead_on" 304 (.ref 84), de P "first_mark" 314 (.ref 91), de P "places_by_start" 324 (.ref 98), de P "first_step_into" 334 (.ref 105), de P "first_way" 350 (.ref 112), de P "_law_cell_at" 360 (.ref 119), de P "_law_digits_at" 370 (.ref 126), de P "_law_word" 381 (.ref 133), de P "_law_scribe" 387 (.ref 138), de P "_law_text" 398 (.ref 145), de P "_law_copied" 405 (.ref 152), de P "_law_dead" 411 (.ref 157), de P "_law_first" 417 (.ref 162), de P "_law_says" 427 (.ref 169), de P "_law_same" 436 (.ref 176), de P "_law_farther" 442 (.ref 181), de P "_law_long" 453 (.ref 188), de P "law" 469 (.ref 195)] 39), #[]⟩
noncomputable def ko23 (P : Params) : Obj := ⟨(.type "dict"), none, (.dict #[de P "__module__" 196 (.str "earlyscribe.errors" 187), de P "__firstlineno__" 200 (.int 2 199), de P "__static_attributes__" 201 (.ref 22), de P "__weakref__" 203 (.ref 25), de P "__doc__" 204 .none] 3), #[]⟩
noncomputable def ko24 (P : Params) : Obj := ⟨(.type "type"), none, (.cls ⟨"ScribeError", [(.type "ValueError")], [(.ref 24), (.type "ValueError"), (.type "Exception"), (.type "BaseException"), (.type "object")], 23, "ScribeError", true, [], [(.ref 37)], false, none, false⟩), #[(some (.ref 15)), none, (some (.str "ScribeError" 189)), (some (.str "ScribeError" 197)), (some (.builtin "ValueError.__new__")), (some (.bool true))]⟩
noncomputable def ko36 (P : Params) : Obj := ⟨(.type "dict"), none, (.dict #[de P "__module__" 214 (.str "earlyscribe.errors" 187), de P "__firstlineno__" 218 (.int 4 217), de P "__static_attributes__" 219 (.ref 35), de P "__doc__" 220 .none] 2), #[]⟩
noncomputable def ko37 (P : Params) : Obj := ⟨(.type "type"), none, (.cls ⟨"NoWay", [(.ref 24)], [(.ref 37), (.ref 24), (.type "ValueError"), (.type "Exception"), (.type "BaseException"), (.type "object")], 36, "NoWay", true, [], [], false, none, false⟩), #[(some (.ref 28)), none, (some (.str "NoWay" 207)), (some (.str "NoWay" 215)), (some (.builtin "ValueError.__new__")), (some (.bool true))]⟩
noncomputable def ko45 (P : Params) : Obj := cob "part_at" 231 232 233 10 2 (.ref 40) (.ref 41) .none (.ref 42) (.ref 43) (.ref 44) 236 237
noncomputable def ko46 (P : Params) : Obj := fob "part_at" (top 7) (.type "function") none .none .none (.str "earlyscribe.scribes" 223) none (.ref 45) .none #[]
noncomputable def ko52 (P : Params) : Obj := cob "walked_by" 239 240 241 14 2 (.ref 47) (.ref 48) .none (.ref 49) (.ref 50) (.ref 51) 251 252
noncomputable def ko53 (P : Params) : Obj := fob "walked_by" (top 8) (.type "function") none .none .none (.str "earlyscribe.scribes" 223) none (.ref 52) .none #[]
noncomputable def ko59 (P : Params) : Obj := cob "each_once" 258 259 260 33 1 (.ref 54) (.ref 55) .none (.ref 56) (.ref 57) (.ref 58) 264 265
noncomputable def ko60 (P : Params) : Obj := fob "each_once" (top 11) (.type "function") none .none .none (.str "earlyscribe.forms" 256) none (.ref 59) .none #[]
noncomputable def ko64 (P : Params) : Obj := cob "starts_by_goal" 269 270 271 39 1 (.ref 61) (.ref 62) .none .none .none (.ref 63) 272 273
noncomputable def ko65 (P : Params) : Obj := fob "starts_by_goal" (top 13) (.type "function") none .none .none (.str "earlyscribe.passes" 267) none (.ref 64) .none #[]
noncomputable def ko71 (P : Params) : Obj := cob "rooms_ahead" 275 276 277 44 3 (.ref 66) (.ref 67) .none (.ref 68) (.ref 69) (.ref 70) 284 285
noncomputable def ko72 (P : Params) : Obj := fob "rooms_ahead" (top 14) (.type "function") none .none .none (.str "earlyscribe.passes" 267) none (.ref 71) .none #[]
noncomputable def ko76 (P : Params) : Obj := cob "rooms_with_ends" 287 288 289 50 1 (.ref 73) (.ref 74) .none .none .none (.ref 75) 290 291
noncomputable def ko77 (P : Params) : Obj := fob "rooms_with_ends" (top 15) (.type "function") none .none .none (.str "earlyscribe.passes" 267) none (.ref 76) .none #[]
noncomputable def ko83 (P : Params) : Obj := cob "rooms_that_lead_on" 293 294 295 52 2 (.ref 78) (.ref 79) .none (.ref 80) (.ref 81) (.ref 82) 302 303
noncomputable def ko84 (P : Params) : Obj := fob "rooms_that_lead_on" (top 16) (.type "function") none .none .none (.str "earlyscribe.passes" 267) none (.ref 83) .none #[]
noncomputable def ko90 (P : Params) : Obj := cob "first_mark" 305 306 307 60 2 (.ref 85) (.ref 86) .none (.ref 87) (.ref 88) (.ref 89) 312 313
noncomputable def ko91 (P : Params) : Obj := fob "first_mark" (top 17) (.type "function") none .none .none (.str "earlyscribe.passes" 267) none (.ref 90) .none #[]
noncomputable def ko97 (P : Params) : Obj := cob "places_by_start" 315 316 317 65 1 (.ref 92) (.ref 93) .none (.ref 94) (.ref 95) (.ref 96) 322 323
noncomputable def ko98 (P : Params) : Obj := fob "places_by_start" (top 18) (.type "function") none .none .none (.str "earlyscribe.passes" 267) none (.ref 97) .none #[]
noncomputable def ko104 (P : Params) : Obj := cob "first_step_into" 325 326 327 70 3 (.ref 99) (.ref 100) .none (.ref 101) (.ref 102) (.ref 103) 332 333
noncomputable def ko105 (P : Params) : Obj := fob "first_step_into" (top 19) (.type "function") none .none .none (.str "earlyscribe.passes" 267) none (.ref 104) .none #[]
noncomputable def ko111 (P : Params) : Obj := cob "first_way" 335 336 337 75 2 (.ref 106) (.ref 107) .none (.ref 108) (.ref 109) (.ref 110) 348 349
noncomputable def ko112 (P : Params) : Obj := fob "first_way" (top 20) (.type "function") none .none .none (.str "earlyscribe.passes" 267) none (.ref 111) .none #[]
noncomputable def ko118 (P : Params) : Obj := cob "_law_cell_at" 353 354 355 89 2 (.ref 113) (.ref 114) .none (.ref 115) (.ref 116) (.ref 117) 358 359
noncomputable def ko119 (P : Params) : Obj := fob "_law_cell_at" (top 22) (.type "function") none .none .none (.str "law_earlyscribe_k93_first_ways" 351) none (.ref 118) .none #[]
noncomputable def ko125 (P : Params) : Obj := cob "_law_digits_at" 361 362 363 93 2 (.ref 120) (.ref 121) .none (.ref 122) (.ref 123) (.ref 124) 368 369
noncomputable def ko126 (P : Params) : Obj := fob "_law_digits_at" (top 23) (.type "function") none .none .none (.str "law_earlyscribe_k93_first_ways" 351) none (.ref 125) .none #[]
noncomputable def ko132 (P : Params) : Obj := cob "_law_word" 371 372 373 100 1 (.ref 127) (.ref 128) .none (.ref 129) (.ref 130) (.ref 131) 379 380
noncomputable def ko133 (P : Params) : Obj := fob "_law_word" (top 24) (.type "function") none .none .none (.str "law_earlyscribe_k93_first_ways" 351) none (.ref 132) .none #[]
noncomputable def ko137 (P : Params) : Obj := cob "_law_scribe" 382 383 384 110 3 (.ref 134) (.ref 135) .none .none .none (.ref 136) 385 386
noncomputable def ko138 (P : Params) : Obj := fob "_law_scribe" (top 25) (.type "function") none .none .none (.str "law_earlyscribe_k93_first_ways" 351) none (.ref 137) .none #[]
noncomputable def ko144 (P : Params) : Obj := cob "_law_text" 388 389 390 139 2 (.ref 139) (.ref 140) .none (.ref 141) (.ref 142) (.ref 143) 396 397
noncomputable def ko145 (P : Params) : Obj := fob "_law_text" (top 26) (.type "function") none .none .none (.str "law_earlyscribe_k93_first_ways" 351) none (.ref 144) .none #[]
noncomputable def ko151 (P : Params) : Obj := cob "_law_copied" 399 400 401 146 1 (.ref 146) (.ref 147) .none (.ref 148) (.ref 149) (.ref 150) 403 404
noncomputable def ko152 (P : Params) : Obj := fob "_law_copied" (top 27) (.type "function") none .none .none (.str "law_earlyscribe_k93_first_ways" 351) none (.ref 151) .none #[]
noncomputable def ko156 (P : Params) : Obj := cob "_law_dead" 406 407 408 148 2 (.ref 153) (.ref 154) .none .none .none (.ref 155) 409 410
noncomputable def ko157 (P : Params) : Obj := fob "_law_dead" (top 28) (.type "function") none .none .none (.str "law_earlyscribe_k93_first_ways" 351) none (.ref 156) .none #[]
noncomputable def ko161 (P : Params) : Obj := cob "_law_first" 412 413 414 160 2 (.ref 158) (.ref 159) .none .none .none (.ref 160) 415 416
noncomputable def ko162 (P : Params) : Obj := fob "_law_first" (top 29) (.type "function") none .none .none (.str "law_earlyscribe_k93_first_ways" 351) none (.ref 161) .none #[]
noncomputable def ko168 (P : Params) : Obj := cob "_law_says" 418 419 420 177 2 (.ref 163) (.ref 164) .none (.ref 165) (.ref 166) (.ref 167) 425 426
noncomputable def ko169 (P : Params) : Obj := fob "_law_says" (top 30) (.type "function") none .none .none (.str "law_earlyscribe_k93_first_ways" 351) none (.ref 168) .none #[]
noncomputable def ko175 (P : Params) : Obj := cob "_law_same" 428 429 430 182 2 (.ref 170) (.ref 171) .none (.ref 172) (.ref 173) (.ref 174) 434 435
noncomputable def ko176 (P : Params) : Obj := fob "_law_same" (top 31) (.type "function") none .none .none (.str "law_earlyscribe_k93_first_ways" 351) none (.ref 175) .none #[]
noncomputable def ko180 (P : Params) : Obj := cob "_law_farther" 437 438 439 191 2 (.ref 177) (.ref 178) .none .none .none (.ref 179) 440 441
noncomputable def ko181 (P : Params) : Obj := fob "_law_farther" (top 32) (.type "function") none .none .none (.str "law_earlyscribe_k93_first_ways" 351) none (.ref 180) .none #[]
noncomputable def ko187 (P : Params) : Obj := cob "_law_long" 443 444 445 196 1 (.ref 182) (.ref 183) .none (.ref 184) (.ref 185) (.ref 186) 451 452
noncomputable def ko188 (P : Params) : Obj := fob "_law_long" (top 33) (.type "function") none .none .none (.str "law_earlyscribe_k93_first_ways" 351) none (.ref 187) .none #[]
noncomputable def ko194 (P : Params) : Obj := cob "law" 454 455 456 203 1 (.ref 189) (.ref 190) .none (.ref 191) (.ref 192) (.ref 193) 467 468
noncomputable def ko195 (P : Params) : Obj := fob "law" (top 34) (.type "function") none .none .none (.str "law_earlyscribe_k93_first_ways" 351) none (.ref 194) .none #[]
noncomputable def K (P : Params) : Frag := (nat_lit 2, ko2 P) :: (nat_lit 3, ko3 P) :: (nat_lit 23, ko23 P) :: (nat_lit 24, ko24 P) :: (nat_lit 36, ko36 P) :: (nat_lit 37, ko37 P) :: (nat_lit 45, ko45 P) :: (nat_lit 46, ko46 P) :: (nat_lit 52, ko52 P) :: (nat_lit 53, ko53 P) :: (nat_lit 59, ko59 P) :: (nat_lit 60, ko60 P) :: (nat_lit 64, ko64 P) :: (nat_lit 65, ko65 P) :: (nat_lit 71, ko71 P) :: (nat_lit 72, ko72 P) :: (nat_lit 76, ko76 P) :: (nat_lit 77, ko77 P) :: (nat_lit 83, ko83 P) :: (nat_lit 84, ko84 P) :: (nat_lit 90, ko90 P) :: (nat_lit 91, ko91 P) :: (nat_lit 97, ko97 P) :: (nat_lit 98, ko98 P) :: (nat_lit 104, ko104 P) :: (nat_lit 105, ko105 P) :: (nat_lit 111, ko111 P) :: (nat_lit 112, ko112 P) :: (nat_lit 118, ko118 P) :: (nat_lit 119, ko119 P) :: (nat_lit 125, ko125 P) :: (nat_lit 126, ko126 P) :: (nat_lit 132, ko132 P) :: (nat_lit 133, ko133 P) :: (nat_lit 137, ko137 P) :: (nat_lit 138, ko138 P) :: (nat_lit 144, ko144 P) :: (nat_lit 145, ko145 P) :: (nat_lit 151, ko151 P) :: (nat_lit 152, ko152 P) :: (nat_lit 156, ko156 P) :: (nat_lit 157, ko157 P) :: (nat_lit 161, ko161 P) :: (nat_lit 162, ko162 P) :: (nat_lit 168, ko168 P) :: (nat_lit 169, ko169 P) :: (nat_lit 175, ko175 P) :: (nat_lit 176, ko176 P) :: (nat_lit 180, ko180 P) :: (nat_lit 181, ko181 P) :: (nat_lit 187, ko187 P) :: (nat_lit 188, ko188 P) :: (nat_lit 194, ko194 P) :: (nat_lit 195, ko195 P) :: []
def as : List Addr := [2, 3, 23, 24, 36, 37, 45, 46, 52, 53, 59, 60, 64, 65, 71, 72, 76, 77, 83, 84, 90, 91, 97, 98, 104, 105, 111, 112, 118, 119, 125, 126, 132, 133, 137, 138, 144, 145, 151, 152, 156, 157, 161, 162, 168, 169, 175, 176, 180, 181, 187, 188, 194, 195]
end My
lay_quick My.K
namespace My
open PySem PySem.W PyProof.Rows L2 L3
noncomputable def q : Program := view PySem.Challenge.pw_earlyscribe_k93_first_ways [1, 2, 4, 5, 6, 7, 8, 9, 11, 13, 14, 15, 16, 17, 18, 19, 20, 22, 23, 24, 25, 26, 27, 28, 29, 30, 31, 32, 33, 34]
noncomputable def env : Env := { scope := PySem.Challenge.pw_earlyscribe_k93_first_ways.main.scope, locals := mainNs, globals := mainNs, cells := [], code := (.ref 13), frame := some 14 }
theorem size (w : World) : ((boot_heap w.params).isNs mainGlobals && (Array.mk ([] : List GenState)).size == 0, (boot_heap w.params).objs.size, (boot_heap w.params).nsMap mainGlobals "__annotations__") = (true, 11, (some (.ref 6))) := by
  rw [PySem.W.Fast.te8920871248978507458]
  kernel_rfl
theorem hl : LeftO PySem.Challenge.pw_earlyscribe_k93_first_ways q [] (fun s => xlAt q [] s && recOk [] s) (fun s => as.map s.heap.get?) (fun w => (K w.params).map fun x => some x.2) 2580 := by
  refine Hd.left_of (k1 := 12) (k2 := 1) (k3 := 1228) (k4 := 2) (n₁ := 15) (m₀ := 11) (ann := (some (.ref 6))) (env := env) (fp := ⟨0, 0, 0, 0⟩) (p1 := ⟨0, 0, 0, 0⟩) (p2 := ⟨0, 0, 0, 0⟩) (p3 := ⟨203, 0, 227, 35⟩) rfl rfl (fun _ => rfl) size rfl ?_
  intro w
  unfold Hd.look q env
  rw [PySem.W.Fast.te15667345088766844465, PySem.W.Fast.te14374325043358763698, PySem.W.Fast.te10110043849684766642, PySem.W.Fast.te14082659384304107361, PySem.W.Fast.te14364793385576792824, PySem.W.Fast.te4187177175401517315, PySem.W.Fast.te5923862056798008813, PySem.W.Fast.te11892475500146522536, PySem.W.Fast.te12754154230045568370, PySem.W.Fast.te9234714395318824432]
  kernel_rfl
end My
namespace My
open PySem PySem.Spec PyProof.Rows L2 L3
abbrev s_part_at : Stmt := top 7
abbrev s_walked_by : Stmt := top 8
abbrev s_each_once : Stmt := top 11
abbrev s_starts_by_goal : Stmt := top 13
abbrev s_rooms_ahead : Stmt := top 14
abbrev s_rooms_with_ends : Stmt := top 15
abbrev s_rooms_that_lead_on : Stmt := top 16
abbrev s_first_mark : Stmt := top 17
abbrev s_places_by_start : Stmt := top 18
abbrev s_first_step_into : Stmt := top 19
abbrev s_first_way : Stmt := top 20
abbrev s_law_cell_at : Stmt := top 22
abbrev s_law_digits_at : Stmt := top 23
abbrev s_law_word : Stmt := top 24
abbrev s_law_scribe : Stmt := top 25
abbrev s_law_text : Stmt := top 26
abbrev s_law_copied : Stmt := top 27
abbrev s_law_dead : Stmt := top 28
abbrev s_law_first : Stmt := top 29
abbrev s_law_says : Stmt := top 30
abbrev s_law_same : Stmt := top 31
abbrev s_law_farther : Stmt := top 32
abbrev s_law_long : Stmt := top 33
abbrev s_law : Stmt := top 34
structure Bi (mg : Str → Option Value) : Prop where
  bool : mg "bool" = none
  enumerate : mg "enumerate" = none
  int : mg "int" = none
  isinstance : mg "isinstance" = none
  len : mg "len" = none
  list : mg "list" = none
  max : mg "max" = none
  min : mg "min" = none
  range : mg "range" = none
  reversed : mg "reversed" = none
  set : mg "set" = none
  sorted : mg "sorted" = none
  tuple : mg "tuple" = none
  zip : mg "zip" = none
  BEGINS : ∃ t, mg "BEGINS" = some (.int 2 t)
  ENDS : ∃ t, mg "ENDS" = some (.int 4 t)
  INTO : ∃ t, mg "INTO" = some (.int 3 t)
  STEPS : ∃ t, mg "STEPS" = some (.int 3 t)
structure Xb (K : PySem.W.Frag) (mg : Str → Option Value) (c_NoWay : Addr) : Prop where
  nm_NoWay : mg "NoWay" = some (.ref c_NoWay)
  own_NoWay : OwnX K mg "NoWay" c_NoWay
  xc_NoWay : XCls K c_NoWay

local macro_rules | `(tactic| walk_at "side") => `(tactic| first | exact pz | exact ⟨pz, pz⟩ | exact .inr ⟨by decide, by decide⟩ | exact ⟨by omega, by omega⟩ | exact .inl ⟨by omega, by omega⟩ | exact .inr ⟨by omega, by omega⟩ | (show (0 : Int) < _; omega) | exact szl (by simp) | exact szl (by omega))
local macro_rules | `(tactic| walk_at "r") => `(tactic| first | refine ⟨_, rfl, ?_⟩ | refine ⟨_, _, rfl, rfl, ?_⟩ | refine ⟨rfl, ?_⟩ | refine ⟨by walk_at "side", ?_⟩)
local macro_rules | `(tactic| walk_at "rd") => `(tactic| repeat walk_at "r")

def isNum (lo hi : Int) (v : V) : Prop := ∃ n : Int, v = .int n ∧ lo ≤ n ∧ n ≤ hi
theorem szl' {n : Nat} (h : n ≤ 99999) : n < sizeLine := Nat.lt_of_lt_of_le (Nat.lt_succ_of_le h) (szl (by omega))
def Wd (x : Str) : Prop := x.length ≤ 40 ∧ ∀ c ∈ cl x, 97 ≤ c ∧ c ≤ 122
structure OkS (pl : Bool) (s : Scr) (n : Nat) : Prop where
  lb : s.begins.length ≤ n
  ls : s.steps.length ≤ n
  le : s.ends.length ≤ n
  mb : ∀ m ∈ s.begins, 0 ≤ m.1 ∧ m.1 < s.rooms ∧ Wd m.2
  ms : ∀ t ∈ s.steps, 0 ≤ t.1 ∧ t.1 < s.rooms ∧ (∃ c ∈ cl s.signs, t.2.1 = ⟨#[c]⟩) ∧ Wd t.2.2.1 ∧ 0 ≤ t.2.2.2 ∧ t.2.2.2 < s.rooms
  me : ∀ m ∈ s.ends, 0 ≤ m.1 ∧ m.1 < s.rooms ∧ Wd m.2
  nb : s.begins.Nodup
  ns : s.steps.Nodup
  ne : s.ends.Nodup
  pb : pl = true → s.begins.length ≤ 1
  po : pl = true → (s.steps.map fun t => (t.1, t.2.1)).Nodup
  pe : pl = true → (s.ends.map (·.1)).Nodup
theorem OkS.mono {pl : Bool} {s : Scr} {n m : Nat} (h : OkS pl s n) (le : n ≤ m) : OkS pl s m :=
  ⟨Nat.le_trans h.lb le, Nat.le_trans h.ls le, Nat.le_trans h.le le, h.mb, h.ms, h.me, h.nb, h.ns, h.ne, h.pb, h.po, h.pe⟩
theorem nodup_snoc {α : Type} {xs : List α} {x : α} (h : xs.Nodup) (hn : x ∉ xs) : (xs ++ [x]).Nodup := by
  rw [List.nodup_append]
  refine ⟨h, by simp, fun a ha b hb => ?_⟩
  rw [List.mem_singleton] at hb
  subst hb
  intro e; subst e; exact hn ha
theorem OkS.begin {pl : Bool} {g : Str} {r : Int} {B : List Mk} {S : List Stp} {E : List Mk} {n : Nat} (h : OkS pl ⟨g, r, B, S, E⟩ n) {i : Int} {x : Str} (h0 : 0 ≤ i) (h1 : i < r) (hw : Wd x) (hn : (i, x) ∉ B) (hp : pl = true → B.length = 0) : OkS pl ⟨g, r, B ++ [(i, x)], S, E⟩ (n + 1) := by
  have ha := h.mono (Nat.le_succ n)
  refine ⟨?_, ha.ls, ha.le, fun m hm => ?_, h.ms, h.me, nodup_snoc h.nb hn, h.ns, h.ne, fun q => ?_, h.po, h.pe⟩
  · show (B ++ [(i, x)]).length ≤ n + 1
    have : B.length ≤ n := h.lb
    rw [List.length_append, List.length_singleton]; omega
  · rcases List.mem_append.mp hm with hm | hm
    · exact h.mb m hm
    · rw [List.mem_singleton.mp hm]; exact ⟨h0, h1, hw⟩
  · show (B ++ [(i, x)]).length ≤ 1
    rw [List.length_append, hp q, List.length_singleton]; omega
theorem OkS.end_ {pl : Bool} {g : Str} {r : Int} {B : List Mk} {S : List Stp} {E : List Mk} {n : Nat} (h : OkS pl ⟨g, r, B, S, E⟩ n) {i : Int} {x : Str} (h0 : 0 ≤ i) (h1 : i < r) (hw : Wd x) (hn : (i, x) ∉ E) (hp : pl = true → ∀ m ∈ E, m.1 ≠ i) : OkS pl ⟨g, r, B, S, E ++ [(i, x)]⟩ (n + 1) := by
  have ha := h.mono (Nat.le_succ n)
  refine ⟨ha.lb, ha.ls, ?_, h.mb, h.ms, fun m hm => ?_, h.nb, h.ns, nodup_snoc h.ne hn, h.pb, h.po, fun q => ?_⟩
  · show (E ++ [(i, x)]).length ≤ n + 1
    have : E.length ≤ n := h.le
    rw [List.length_append, List.length_singleton]; omega
  · rcases List.mem_append.mp hm with hm | hm
    · exact h.me m hm
    · rw [List.mem_singleton.mp hm]; exact ⟨h0, h1, hw⟩
  · show ((E ++ [(i, x)]).map (·.1)).Nodup
    rw [List.map_append]
    refine nodup_snoc (h.pe q) fun hm => ?_
    obtain ⟨m, hm, e⟩ := List.mem_map.mp hm
    exact hp q m hm e
theorem OkS.step {pl : Bool} {g : Str} {r : Int} {B : List Mk} {S : List Stp} {E : List Mk} {n : Nat} (h : OkS pl ⟨g, r, B, S, E⟩ n) {i j : Int} {y x : Str} (h0 : 0 ≤ i) (h1 : i < r) (hy : ∃ c ∈ cl g, y = ⟨#[c]⟩) (hw : Wd x) (h2 : 0 ≤ j) (h3 : j < r) (hn : (i, y, x, j) ∉ S) (hp : pl = true → ∀ t ∈ S, ¬ (t.1 = i ∧ t.2.1 = y)) :
    OkS pl ⟨g, r, B, S ++ [(i, y, x, j)], E⟩ (n + 1) := by
  have ha := h.mono (Nat.le_succ n)
  refine ⟨ha.lb, ?_, ha.le, h.mb, fun t ht => ?_, h.me, h.nb, nodup_snoc h.ns hn, h.ne, h.pb, fun q => ?_, h.pe⟩
  · show (S ++ [(i, y, x, j)]).length ≤ n + 1
    have : S.length ≤ n := h.ls
    rw [List.length_append, List.length_singleton]; omega
  · rcases List.mem_append.mp ht with hm | hm
    · exact h.ms t hm
    · rw [List.mem_singleton.mp hm]; exact ⟨h0, h1, hy, hw, h2, h3⟩
  · show ((S ++ [(i, y, x, j)]).map fun t => (t.1, t.2.1)).Nodup
    rw [List.map_append]
    refine nodup_snoc (h.po q) fun hm => ?_
    obtain ⟨t, hm, e⟩ := List.mem_map.mp hm
    injection e with e1 e2
    exact hp q t hm ⟨e1, e2⟩
def HI (K : PySem.W.Frag) (H0 : Hp) (pb ps pe : Addr) (pl : Bool) (g : Str) (r : Int) (n : Nat) (H : Hp) : Prop := ∃ B S E xb xs xe, Same H0 H ∧ H pb = some (.lst xb) ∧ H ps = some (.lst xs) ∧ H pe = some (.lst xe) ∧
  Paired (MkV K H) B xb ∧ Paired (StV K H) S xs ∧ Paired (MkV K H) E xe ∧ OkS pl ⟨g, r, B, S, E⟩ n
theorem same_updN {H0 H : Hp} {p : Addr} {o : HO} (g : Same H0 H) (h : H0 p = none) : Same H0 (upd H p o) := fun b u q => by rw [upd_ne (ne_of_none q h)]; exact g b u q
theorem HI.mono {K : PySem.W.Frag} {H0 H H' : Hp} {pb ps pe : Addr} {pl : Bool} {g : Str} {r : Int} {n m : Nat} (h : HI K H0 pb ps pe pl g r n H) (s : Same H H') (le : n ≤ m) : HI K H0 pb ps pe pl g r m H' := by
  obtain ⟨B, S, E, xb, xs, xe, h1, h2, h3, h4, h5, h6, h7, h8⟩ := h
  have g' := Same.grow s
  exact ⟨B, S, E, xb, xs, xe, h1.trans s, s _ _ h2, s _ _ h3, s _ _ h4, paired_mono (fun _ _ => MkV.mono g') h5, paired_mono (fun _ _ => StV.mono g') h6, paired_mono (fun _ _ => MkV.mono g') h7, h8.mono le⟩
structure Apart (H0 : Hp) (pb ps pe : Addr) : Prop where
  nb : H0 pb = none
  ns : H0 ps = none
  ne : H0 pe = none
  bs : pb ≠ ps
  be : pb ≠ pe
  se : ps ≠ pe
def cellAt (ns : List Int) (k : Int) : Int := if k < ns.length then (ns[k.toNat]?).getD 0 else 0
def spCell (K : PySem.W.Frag) : Sp := fun vs H Q _ => ∃ (a : Addr) (ns : List Int) (k : Int), vs = [.ref a, .int k] ∧ SqL K H a (ns.map V.int) ∧ 0 ≤ k ∧ Q (.int (cellAt ns k)) H
def spDigits (K : PySem.W.Frag) : Sp := fun vs H Q _ => ∃ (a : Addr) (ns : List Int) (k : Int), vs = [.ref a, .int k] ∧ SqL K H a (ns.map V.int) ∧ 0 ≤ k ∧ ∀ n, Q (.int n) H
def spWord : Sp := fun vs H Q _ => ∃ c : Int, vs = [.int c] ∧ ∀ (x : Str) (H' : Hp), Wd x → Same H H' → Q (.str x) H'
def NewS (K : PySem.W.Frag) (H H' : Hp) (pl : Bool) (n : Nat) (s : Scr) (v : V) (pb ps pe : Addr) : Prop := Same H H' ∧ ScV K H' s v pb ps pe ∧ OkS pl s n ∧ 0 ≤ s.rooms ∧ s.rooms ≤ 14 ∧ 1 ≤ s.signs.length ∧ s.signs.length ≤ 5 ∧ (cl s.signs).Nodup ∧ (∀ c ∈ cl s.signs, 97 ≤ c ∧ c ≤ 122)
def spScribe (K : PySem.W.Frag) : Sp := fun vs H Q _ => ∃ (a : Addr) (ns : List Int) (at_ : Int) (pl : Bool), vs = [.ref a, .int at_, .bl pl] ∧ SqL K H a (ns.map V.int) ∧ ns.length ≤ 63 ∧ 0 ≤ at_ ∧ at_ ≤ 63 ∧ ∀ v H' s pb ps pe, NewS K H H' pl 95 s v pb ps pe → Q v H'
def ScN (K : PySem.W.Frag) (H : Hp) (s : Scr) (v : V) (pb ps pe : Addr) : Prop := ∃ a xb xs xe, v = .ref a ∧ SqT K H a [.str s.signs, .int s.rooms, .ref pb, .ref ps, .ref pe] ∧ H pb = some (.lst xb) ∧ H ps = some (.lst xs) ∧ H pe = some (.lst xe) ∧
  Paired (MkV K H) s.begins xb ∧ Paired (StV K H) s.steps xs ∧ Paired (MkV K H) s.ends xe
theorem ScN.v {K : PySem.W.Frag} {H : Hp} {s : Scr} {v : V} {pb ps pe : Addr} : ScN K H s v pb ps pe → ScV K H s v pb ps pe
  | ⟨a, xb, xs, xe, e, h1, h2, h3, h4, h5, h6, h7⟩ => ⟨a, xb, xs, xe, e, h1, SqL.of h2, SqL.of h3, SqL.of h4, h5, h6, h7⟩
def spCopied (K : PySem.W.Frag) : Sp := fun vs H Q _ => ∃ v s pb ps pe, vs = [v] ∧ ScV K H s v pb ps pe ∧ ∀ v' H' pb' ps' pe', Same H H' → ScN K H' s v' pb' ps' pe' → Apart H pb' ps' pe' → Q v' H'

theorem one_len (c : Nat) : (⟨#[c]⟩ : Str).length = 1 := rfl
theorem len_app (a b : Str) : (a ++ b).length = a.length + b.length := by
  rw [← cl_length, cl_append, List.length_append, cl_length, cl_length]
theorem cl_nil : ∀ c ∈ cl ("" : Str), 97 ≤ c ∧ c ≤ 122 := by
  intro c hc
  have e : cl ("" : Str) = [] := by decide +kernel
  rw [e] at hc; cases hc
theorem cl_one (c : Nat) : cl ⟨#[c]⟩ = [c] := rfl

theorem iteB {b : Bool} {A B : Prop} (h1 : b = true → A) (h2 : b = false → B) : if b = true then A else B := by
  cases b
  · exact iteF (h2 rfl)
  · exact iteT (h1 rfl)
theorem modmax (n : Int) {r : Int} (hr : 0 ≤ r) : 0 ≤ n % (if r > 1 then r else 1) ∧ (0 < r → n % (if r > 1 then r else 1) < r) := by
  have hp : 0 < (if r > 1 then r else 1) := by split <;> omega
  refine ⟨Int.emod_nonneg _ (by omega), fun h => ?_⟩
  have := Int.emod_lt_of_pos n hp
  split at this <;> split <;> omega
def SgnOk (g : Str) : Prop := 1 ≤ g.length ∧ g.length ≤ 5 ∧ (cl g).Nodup ∧ ∀ c ∈ cl g, 97 ≤ c ∧ c ≤ 122
def isSgn (v : V) : Prop := ∃ g : Str, v = .str g ∧ SgnOk g
theorem HI.addStep {K : PySem.W.Frag} {H0 H : Hp} {pb ps pe : Addr} {pl : Bool} {g : Str} {r : Int} {n : Nat} {B : List Mk} {S : List Stp} {E : List Mk} {xb xs xe : List V} {t : Stp} {v : V} (A : Apart H0 pb ps pe) (h1 : Same H0 H) (h2 : H pb = some (.lst xb)) (h3 : H ps = some (.lst xs)) (h4 : H pe = some (.lst xe))
    (h5 : Paired (MkV K H) B xb) (h6 : Paired (StV K H) S xs) (h7 : Paired (MkV K H) E xe) (h8 : OkS pl ⟨g, r, B, S ++ [t], E⟩ n) (hv : StV K H t v) : HI K H0 pb ps pe pl g r n (upd H ps (.lst (xs ++ [v]))) := by
  have gr := grow_upd h3 (.lst (xs ++ [v]))
  exact ⟨B, S ++ [t], E, xb, xs ++ [v], xe, same_updN h1 A.ns, by rw [upd_ne A.bs]; exact h2, upd_same, by rw [upd_ne A.se.symm]; exact h4, paired_mono (fun _ _ => MkV.mono gr) h5,
    paired_append (paired_mono (fun _ _ => StV.mono gr) h6) (.cons (StV.mono gr hv) .nil), paired_mono (fun _ _ => MkV.mono gr) h7, h8⟩
theorem HI.addEnd {K : PySem.W.Frag} {H0 H : Hp} {pb ps pe : Addr} {pl : Bool} {g : Str} {r : Int} {n : Nat} {B : List Mk} {S : List Stp} {E : List Mk} {xb xs xe : List V} {t : Mk} {v : V} (A : Apart H0 pb ps pe) (h1 : Same H0 H) (h2 : H pb = some (.lst xb)) (h3 : H ps = some (.lst xs)) (h4 : H pe = some (.lst xe))
    (h5 : Paired (MkV K H) B xb) (h6 : Paired (StV K H) S xs) (h7 : Paired (MkV K H) E xe) (h8 : OkS pl ⟨g, r, B, S, E ++ [t]⟩ n) (hv : MkV K H t v) : HI K H0 pb ps pe pl g r n (upd H pe (.lst (xe ++ [v]))) := by
  have gr := grow_upd h4 (.lst (xe ++ [v]))
  exact ⟨B, S, E ++ [t], xb, xs, xe ++ [v], same_updN h1 A.ne, by rw [upd_ne A.be]; exact h2, by rw [upd_ne A.se]; exact h3, upd_same, paired_mono (fun _ _ => MkV.mono gr) h5,
    paired_mono (fun _ _ => StV.mono gr) h6, paired_append (paired_mono (fun _ _ => MkV.mono gr) h7) (.cons (MkV.mono gr hv) .nil), h8⟩
theorem HI.addBegin {K : PySem.W.Frag} {H0 H : Hp} {pb ps pe : Addr} {pl : Bool} {g : Str} {r : Int} {n : Nat} {B : List Mk} {S : List Stp} {E : List Mk} {xb xs xe : List V} {t : Mk} {v : V} (A : Apart H0 pb ps pe) (h1 : Same H0 H) (h2 : H pb = some (.lst xb)) (h3 : H ps = some (.lst xs)) (h4 : H pe = some (.lst xe))
    (h5 : Paired (MkV K H) B xb) (h6 : Paired (StV K H) S xs) (h7 : Paired (MkV K H) E xe) (h8 : OkS pl ⟨g, r, B ++ [t], S, E⟩ n) (hv : MkV K H t v) : HI K H0 pb ps pe pl g r n (upd H pb (.lst (xb ++ [v]))) := by
  have gr := grow_upd h2 (.lst (xb ++ [v]))
  exact ⟨B ++ [t], S, E, xb ++ [v], xs, xe, same_updN h1 A.nb, upd_same, by rw [upd_ne A.bs.symm]; exact h3, by rw [upd_ne A.be.symm]; exact h4, paired_append (paired_mono (fun _ _ => MkV.mono gr) h5) (.cons (MkV.mono gr hv) .nil),
    paired_mono (fun _ _ => StV.mono gr) h6, paired_mono (fun _ _ => MkV.mono gr) h7, h8⟩
theorem notIn_mk {K : PySem.W.Frag} {H : Hp} {E : List Mk} {xe : List V} {m : Mk} (h : Paired (MkV K H) E xe) : Reps K H (E.map dMk) xe := reps_of (f := dMk) (F := MkV K H) (fun _ _ h => MkV.rep h) h
theorem reps_st {K : PySem.W.Frag} {H : Hp} {E : List Stp} {xe : List V} (h : Paired (StV K H) E xe) : Reps K H (E.map dSt) xe := reps_of (f := dSt) (F := StV K H) (fun _ _ h => StV.rep h) h
theorem eq2 (i j : Int) (x y : Str) : eqD (.tup [.int i, .str x]) (.tup [.int j, .str y]) = decide (i = j ∧ x = y) := by
  simp only [eqD, eqDs, Bool.and_true]
  by_cases h1 : i = j <;> by_cases h2 : x = y <;> simp [h1, h2]
theorem take_get {α : Type} {xs : List α} {i : Nat} {x : α} (h : xs[i]? = some x) : xs.take (i + 1) = xs.take i ++ [x] := by rw [List.take_add_one, h]; rfl

structure Wy where
  b : Int
  row : List Int
  e : Int
def WyV (K : PySem.W.Frag) (H : Hp) (y : Wy) (v : V) : Prop := ∃ a p, v = .ref a ∧ SqT K H a [.int y.b, .ref p, .int y.e] ∧ H p = some (.lst (y.row.map V.int))
theorem WyV.mono {K : PySem.W.Frag} {H H' : Hp} {y : Wy} {v : V} (g : Same H H') : WyV K H y v → WyV K H' y v := fun ⟨a, p, e, h, h'⟩ => ⟨a, p, e, Same.seqT g h, g _ _ h'⟩
def inR (n : Nat) (i : Int) : Prop := 0 ≤ i ∧ i < n
instance (n : Nat) (i : Int) : Decidable (inR n i) := inferInstanceAs (Decidable (_ ∧ _))
def stepM (s : Scr) (c : Int × Str × Str) (i : Int) : Option (Int × Str × Str) :=
  if inR s.steps.length i then match s.steps[i.toNat]? with
    | some t => if t.1 = c.1 then some (t.2.2.2, c.2.1 ++ t.2.1, c.2.2 ++ t.2.2.1) else none
    | none => none
  else none
def walkM (s : Scr) (c : Int × Str × Str) (is : List Int) : Option (Int × Str × Str) := is.foldl (fun o i => o.bind fun c => stepM s c i) (some c)
theorem walk_none (s : Scr) : ∀ is : List Int, is.foldl (fun o i => o.bind fun c => stepM s c i) none = none
  | [] => rfl
  | _ :: is => walk_none s is
theorem walk_snoc (s : Scr) (c : Int × Str × Str) (is : List Int) (i : Int) : walkM s c (is ++ [i]) = (walkM s c is).bind fun c => stepM s c i := by
  unfold walkM; rw [List.foldl_append]; rfl
theorem walk_take {s : Scr} {c : Int × Str × Str} {is : List Int} {k : Nat} {i : Int} (h : is[k]? = some i) : walkM s c (is.take (k + 1)) = (walkM s c (is.take k)).bind fun c => stepM s c i := by
  rw [take_get h, walk_snoc]
theorem walk_cut {s : Scr} {c : Int × Str × Str} {is : List Int} {k : Nat} (h : walkM s c (is.take k) = none) : walkM s c is = none := by
  have e : is = is.take k ++ is.drop k := (List.take_append_drop k is).symm
  unfold walkM at *
  rw [e, List.foldl_append, h, walk_none]
def markAt (ms : List Mk) (i : Int) : Option Mk := if inR ms.length i then ms[i.toNat]? else none
def walkedM (s : Scr) (y : Wy) : Option (Str × Str) :=
  (markAt s.begins y.b).bind fun m => (walkM s (m.1, "", m.2) y.row).bind fun c => (markAt s.ends y.e).bind fun n => if n.1 = c.1 then some (c.2.1, c.2.2 ++ n.2) else none
def catS (ys : List Str) : Str := ys.foldl (· ++ ·) ""
theorem catS_snoc (ys : List Str) (y : Str) : catS (ys ++ [y]) = catS ys ++ y := by unfold catS; rw [List.foldl_append]; rfl
theorem app_nil (x : Str) : x ++ ("" : Str) = x := str_ext (by rw [cl_append]; have e : cl ("" : Str) = [] := by decide +kernel
                                                               rw [e, List.append_nil])
theorem nil_app (x : Str) : ("" : Str) ++ x = x := str_ext (by rw [cl_append]; have e : cl ("" : Str) = [] := by decide +kernel
                                                               rw [e, List.nil_append])
theorem catS_one (y : Str) : catS [y] = y := by show "" ++ y = y; exact nil_app y
theorem catS_len : ∀ ys : List Str, (catS ys).length = (ys.map (·.length)).sum := fun ys => by
  have go : ∀ (ys : List Str) (a : Str), (ys.foldl (· ++ ·) a).length = a.length + (ys.map (·.length)).sum := by
    intro ys
    induction ys with
    | nil => intro a; simp
    | cons y ys ih => intro a; rw [List.foldl_cons, ih, len_app, List.map_cons, List.sum_cons]; omega
  have := go ys ""
  have e : ("" : Str).length = 0 := rfl
  unfold catS; omega
theorem join_cat (ys : List Str) : Txt.join "" ys = catS ys := by
  have go : ∀ (ys : List Str) (a : Array Nat), (⟨ys.foldl (fun acc p => acc ++ ("" : Str).cps ++ p.cps) a⟩ : Str) = ys.foldl (· ++ ·) ⟨a⟩ := by
    intro ys
    induction ys with
    | nil => intro a; rfl
    | cons y ys ih =>
      intro a
      rw [List.foldl_cons, List.foldl_cons, ih]
      have e : (⟨a ++ ("" : Str).cps ++ y.cps⟩ : Str) = ⟨a⟩ ++ y := str_ext (by
        show (a ++ ("" : Str).cps ++ y.cps).toList = cl (⟨a⟩ ++ y)
        rw [cl_append, Array.toList_append, Array.toList_append]
        have z : ("" : Str).cps.toList = [] := by decide +kernel
        rw [z, List.append_nil])
      rw [e]
  cases ys with
  | nil => rfl
  | cons y ys =>
    show (⟨ys.foldl (fun acc p => acc ++ ("" : Str).cps ++ p.cps) y.cps⟩ : Str) = _
    rw [go]
    unfold catS
    rw [List.foldl_cons, nil_app]
def Short (s : Scr) : Prop := (∀ m ∈ s.begins, m.2.length ≤ 100) ∧ (∀ t ∈ s.steps, t.2.1.length ≤ 100 ∧ t.2.2.1.length ≤ 100) ∧ ∀ m ∈ s.ends, m.2.length ≤ 100
def spPart (K : PySem.W.Frag) (c : Addr) : Sp := fun vs H Q E => ∃ p xs i, vs = [.ref p, .int i] ∧ SqL K H p xs ∧ (∀ x, inR xs.length i → xs[i.toNat]? = some x → Q x H) ∧ (¬ inR xs.length i → E (.ref c) none H)
def spWalked (K : PySem.W.Frag) (c : Addr) : Sp := fun vs H Q E => ∃ v s pb ps pe wv y, vs = [v, wv] ∧ ScV K H s v pb ps pe ∧ WyV K H y wv ∧ Short s ∧ y.row.length ≤ 1000 ∧
  (∀ t u, walkedM s y = some (t, u) → ∀ p H', Same H H' → H' p = some (.tup [.str t, .str u]) → Q (.ref p) H') ∧ (walkedM s y = none → ∀ H', Same H H' → E (.ref c) none H')

def GT (H H' : Hp) : Prop := ∀ b xs, Rd H b (.tup xs) → Rd H' b (.tup xs)
theorem GT.trans {H H' H'' : Hp} (a : GT H H') (b : GT H' H'') : GT H H'' := fun c xs h => b c xs (a c xs h)
theorem GT.of {H H' : Hp} (g : Same H H') : GT H H' := fun b xs h => by
  rcases h with h | ⟨o, h⟩
  · exact .inl (g _ _ h)
  · exact .inr ⟨o, g _ _ h⟩
theorem gt_upd {H : Hp} {p : Addr} {o : HO} (h : H p = some o) (n1 : ∀ xs, o ≠ .tup xs) (n2 : ∀ u xs, o ≠ .frz u (.tup xs)) (o' : HO) : GT H (upd H p o') := fun b xs q => by
  have hne : b ≠ p := by
    rintro rfl
    rcases q with q | ⟨u, q⟩
    · rw [h] at q; exact n1 xs (Option.some.inj q)
    · rw [h] at q; exact n2 u xs (Option.some.inj q)
  unfold Rd
  rw [upd_ne hne]
  exact q
theorem gt_lst {H : Hp} {p : Addr} {xs : List V} (h : H p = some (.lst xs)) (o' : HO) : GT H (upd H p o') := gt_upd h (fun _ z => nomatch z) (fun _ _ z => nomatch z) o'
theorem GT.seqT {K : PySem.W.Frag} {H H' : Hp} {a : Addr} {xs : List V} (g : GT H H') (h : SqT K H a xs) : SqT K H' a xs := by
  rcases h with h | h
  · exact .inl (g _ _ h)
  · exact .inr h
structure Bk {κ α : Type} [DecidableEq κ] (R : Hp → α → V → Prop) (key : α → κ) (H0 H : Hp) (d : Addr) (ts : List α) (kvs : List (κ × V)) : Prop where
  there : ∀ k v, valV kvs k = some v → ∃ l ys, v = .ref l ∧ H0 l = none ∧ l ≠ d ∧ H l = some (.lst ys) ∧ Paired (R H) (ts.filter fun t => decide (key t = k)) ys ∧ 0 < ys.length
  nokey : ∀ k, valV kvs k = none → ts.filter (fun t => decide (key t = k)) = []
  inj : ∀ k k' l, valV kvs k = some (.ref l) → valV kvs k' = some (.ref l) → k = k'
  len : kvs.length ≤ ts.length
theorem filter_snoc {α : Type} (p : α → Bool) (xs : List α) (x : α) : (xs ++ [x]).filter p = xs.filter p ++ if p x = true then [x] else [] := by
  rw [List.filter_append]
  congr 1
  by_cases h : p x = true
  · rw [if_pos h, List.filter_cons_of_pos h]; rfl
  · rw [if_neg h, List.filter_cons_of_neg h]; rfl
def addM {α : Type} [DecidableEq α] (acc : List α) (m : α) : List α := if m ∈ acc then acc else acc ++ [m]
def onceM {α : Type} [DecidableEq α] (xs : List α) : List α := xs.foldl addM []
theorem once_snoc {α : Type} [DecidableEq α] (xs : List α) (x : α) : onceM (xs ++ [x]) = addM (onceM xs) x := by unfold onceM; rw [List.foldl_append]; rfl
theorem once_len {α : Type} [DecidableEq α] (xs : List α) : (onceM xs).length ≤ xs.length := by
  have go : ∀ (xs acc : List α), (xs.foldl addM acc).length ≤ acc.length + xs.length := by
    intro xs
    induction xs with
    | nil => intro acc; exact Nat.le_refl _
    | cons x xs ih =>
      intro acc
      have h := ih (addM acc x)
      have : (addM acc x).length ≤ acc.length + 1 := by
        unfold addM; split
        · omega
        · rw [List.length_append]; exact Nat.le_refl _
      rw [List.foldl_cons, List.length_cons]; omega
  have := go xs []
  unfold onceM
  simpa using this
theorem put_keys {κ : Type} [DecidableEq κ] (kvs : List (κ × V)) (k : κ) (v : V) : (putK kvs k v).map (·.1) = addM (kvs.map (·.1)) k := by
  have hm : (kvs.any fun kv => decide (kv.1 = k)) = true ↔ k ∈ kvs.map (·.1) := by
    rw [List.any_eq_true, List.mem_map]
    exact ⟨fun ⟨x, h1, h2⟩ => ⟨x, h1, of_decide_eq_true h2⟩, fun ⟨x, h1, h2⟩ => ⟨x, h1, decide_eq_true h2⟩⟩
  unfold putK addM
  by_cases h : k ∈ kvs.map (·.1)
  · rw [if_pos (hm.mpr h), if_pos h, List.map_map]
    refine List.map_congr_left fun x _ => ?_
    show (if x.1 = k then _ else _ : κ × V).1 = x.1
    split
    · rename_i e; first | exact e.symm | rfl
    · rfl
  · rw [if_neg (fun z => h (hm.mp z)), if_neg h, List.map_append]; rfl
theorem add_map {α β : Type} [DecidableEq α] [DecidableEq β] {f : α → β} (inj : ∀ a b, f a = f b → a = b) (acc : List α) (m : α) : (addM acc m).map f = addM (acc.map f) (f m) := by
  have hm : f m ∈ acc.map f ↔ m ∈ acc := by
    rw [List.mem_map]
    exact ⟨fun ⟨x, h1, h2⟩ => inj _ _ h2 ▸ h1, fun h => ⟨m, h, rfl⟩⟩
  unfold addM
  by_cases h : m ∈ acc
  · rw [if_pos h, if_pos (hm.mpr h)]
  · rw [if_neg h, if_neg (fun z => h (hm.mp z)), List.map_append]; rfl

section
variable {κ α : Type} [DecidableEq κ] {R : Hp → α → V → Prop} {key : α → κ} {H0 H : Hp} {d : Addr} {ts : List α} {kvs : List (κ × V)}
theorem Bk.nil : Bk R key H0 H d [] ([] : List (κ × V)) := ⟨fun k v h => (by cases h), fun _ _ => rfl, fun k k' l h => (by cases h), Nat.le_refl _⟩
theorem Bk.mono {H' : Hp} (mono : ∀ (H H' : Hp) (t : α) (v : V), GT H H' → R H t v → R H' t v) (b : Bk R key H0 H d ts kvs) (g : Same H H') : Bk R key H0 H' d ts kvs :=
  ⟨fun k v h => let ⟨l, ys, e, h1, h2, h3, h4, h5⟩ := b.there k v h; ⟨l, ys, e, h1, h2, g _ _ h3, paired_mono (fun _ _ => mono _ _ _ _ (GT.of g)) h4, h5⟩, b.nokey, b.inj, b.len⟩
theorem Bk.put (mono : ∀ (H H' : Hp) (t : α) (v : V), GT H H' → R H t v → R H' t v) (b : Bk R key H0 H d ts kvs) {t : α} {y : V} {l : Addr} {ys : List V} (hv : valV kvs (key t) = some (.ref l)) (hl : H l = some (.lst ys)) (hy : R H t y) :
    Bk R key H0 (upd H l (.lst (ys ++ [y]))) d (ts ++ [t]) kvs := by
  have gr := gt_lst hl (.lst (ys ++ [y]))
  refine ⟨fun k v h => ?_, fun k h => ?_, b.inj, by rw [List.length_append]; exact Nat.le_add_right_of_le b.len⟩
  · obtain ⟨l', ys', rfl, h1, h2, h3, h4, h5⟩ := b.there k v h
    rw [filter_snoc]
    by_cases hk : key t = k
    · subst hk
      rw [hv] at h; cases h
      rw [hl] at h3; cases h3
      rw [if_pos (by simp)]
      exact ⟨l, ys ++ [y], rfl, h1, h2, upd_same, paired_append (paired_mono (fun _ _ => mono _ _ _ _ gr) h4) (.cons (mono _ _ _ _ gr hy) .nil), by rw [List.length_append]; omega⟩
    · have hne : l' ≠ l := fun e => hk (b.inj _ _ l hv (e ▸ h))
      rw [if_neg (by simpa using hk), List.append_nil]
      exact ⟨l', ys', rfl, h1, h2, by rw [upd_ne hne]; exact h3, paired_mono (fun _ _ => mono _ _ _ _ gr) h4, h5⟩
  · rw [filter_snoc, b.nokey k h]
    by_cases hk : key t = k
    · subst hk; rw [hv] at h; cases h
    · rw [if_neg (by simpa using hk)]; rfl
theorem Bk.new (mono : ∀ (H H' : Hp) (t : α) (v : V), GT H H' → R H t v → R H' t v) (b : Bk R key H0 H d ts kvs) {t : α} {y : V} {p : Addr} {o od : HO} (hv : valV kvs (key t) = none) (hp0 : H0 p = none) (hpd : p ≠ d) (hd : H d = some od) (n1 : ∀ xs, od ≠ .tup xs) (n2 : ∀ u xs, od ≠ .frz u (.tup xs)) (hpn : ∀ k, valV kvs k ≠ some (.ref p)) (hp : H p = some (.lst [])) (hy : R H t y) :
    Bk R key H0 (upd (upd H d o) p (.lst [y])) d (ts ++ [t]) (putK kvs (key t) (.ref p)) := by
  have g1 := gt_upd hd n1 n2 o
  have hp1 : upd H d o p = some (.lst []) := by rw [upd_ne hpd]; exact hp
  have gr := g1.trans (gt_lst hp1 (.lst [y]))
  refine ⟨fun k v h => ?_, fun k h => ?_, fun k k' l h h' => ?_, ?_⟩
  · rw [valV_put] at h
    rw [filter_snoc]
    by_cases hk : k = key t
    · subst hk
      rw [if_pos rfl] at h; cases h
      rw [if_pos (by simp), b.nokey _ hv]
      exact ⟨p, [y], rfl, hp0, hpd, upd_same, .cons (mono _ _ _ _ gr hy) .nil, Nat.zero_lt_one⟩
    · rw [if_neg hk] at h
      obtain ⟨l', ys', rfl, h1, h2, h3, h4, h5⟩ := b.there k v h
      have hne : l' ≠ p := fun e => hpn k (e ▸ h)
      rw [if_neg (by simpa using fun e => hk (Eq.symm e)), List.append_nil]
      exact ⟨l', ys', rfl, h1, h2, by rw [upd_ne hne, upd_ne h2]; exact h3, paired_mono (fun _ _ => mono _ _ _ _ gr) h4, h5⟩
  · rw [valV_put] at h
    by_cases hk : k = key t
    · rw [if_pos hk] at h; cases h
    · rw [if_neg hk] at h
      rw [filter_snoc, b.nokey k h, if_neg (by simpa using fun e => hk (Eq.symm e))]; rfl
  · rw [valV_put] at h h'
    by_cases hk : k = key t
    · rw [if_pos hk] at h; cases h
      by_cases hk' : k' = key t
      · rw [hk, hk']
      · rw [if_neg hk'] at h'; exact absurd h' (hpn k')
    · rw [if_neg hk] at h
      by_cases hk' : k' = key t
      · rw [if_pos hk'] at h'; cases h'; exact absurd h (hpn k)
      · rw [if_neg hk'] at h'; exact b.inj k k' l h h'
  · have h1 := length_putK kvs (key t) (.ref p)
    have h2 := b.len
    rw [List.length_append, List.length_singleton]; omega
end

def KyR (H : Hp) (k : List Key) (v : V) : Prop := ∃ b, v = .ref b ∧ H b = some (.tup (k.map kV))
theorem KyR.mono {H H' : Hp} {k : List Key} {v : V} (g : Same H H') : KyR H k v → KyR H' k v := fun ⟨b, e, h⟩ => ⟨b, e, g _ _ h⟩
theorem paired_keys {α β γ : Type} {F : α → γ → Prop} : ∀ {kvs : List (α × β)} {bs : List γ}, Paired (fun (kv : α × β) b => F kv.1 b) kvs bs → Paired F (kvs.map (·.1)) bs
  | _, _, .nil => .nil
  | _, _, .cons h t => .cons h (paired_keys t)
def spOnce (K : PySem.W.Frag) : Sp := fun vs H Q _ => ∃ p, vs = [.ref p] ∧ ((∃ ns : List Int, SqL K H p (ns.map V.int) ∧ ns.length ≤ 999 ∧ ∀ l H', Same H H' → H l = none → H' l = some (.lst ((onceM ns).map V.int)) → Q (.ref l) H') ∨
  ∃ (ys : List V) (ks : List (List Key)), SqL K H p ys ∧ Paired (KyR H) ks ys ∧ ks.length ≤ 999 ∧ ∀ l H' (bs : List Addr), Same H H' → H l = none → H' l = some (.lst (bs.map V.ref)) → Paired (fun k b => H' b = some (.tup (k.map kV))) (onceM ks) bs → Q (.ref l) H')
abbrev Mv := Int × Str × Int
def mvOf (t : Stp) : Mv := (t.1, t.2.1, t.2.2.2)
def mvs (T : List Stp) : List Mv := onceM (T.map mvOf)
def MkL (K : PySem.W.Frag) (H : Hp) (p : Addr) (M : List Mk) : Prop := ∃ xs, SqL K H p xs ∧ Paired (MkV K H) M xs
def StL (K : PySem.W.Frag) (H : Hp) (p : Addr) (M : List Stp) : Prop := ∃ xs, SqL K H p xs ∧ Paired (StV K H) M xs
theorem MkL.mono {K : PySem.W.Frag} {H H' : Hp} {p : Addr} {M : List Mk} (g : Same H H') : MkL K H p M → MkL K H' p M := fun ⟨xs, h1, h2⟩ => ⟨xs, g.seq h1, paired_mono (fun _ _ => MkV.mono (Same.grow g)) h2⟩
theorem StL.mono {K : PySem.W.Frag} {H H' : Hp} {p : Addr} {M : List Stp} (g : Same H H') : StL K H p M → StL K H' p M := fun ⟨xs, h1, h2⟩ => ⟨xs, g.seq h1, paired_mono (fun _ _ => StV.mono (Same.grow g)) h2⟩
def k3 (u : Mv) : List Key := [Sum.inl u.1, Sum.inr u.2.1, Sum.inl u.2.2]
theorem k3_inj (a b : Mv) (h : k3 a = k3 b) : a = b := by
  obtain ⟨a1, a2, a3⟩ := a
  obtain ⟨b1, b2, b3⟩ := b
  unfold k3 at h
  simp only [List.cons.injEq, Sum.inl.injEq, Sum.inr.injEq, and_true] at h
  obtain ⟨h1, h2, h3⟩ := h
  subst h1 h2 h3
  rfl
theorem once_map {α β : Type} [DecidableEq α] [DecidableEq β] {f : α → β} (inj : ∀ a b, f a = f b → a = b) (xs : List α) : onceM (xs.map f) = (onceM xs).map f := by
  have go : ∀ (xs acc : List α), (xs.map f).foldl addM (acc.map f) = (xs.foldl addM acc).map f := by
    intro xs
    induction xs with
    | nil => intro acc; rfl
    | cons x xs ih => intro acc; rw [List.map_cons, List.foldl_cons, List.foldl_cons, ← add_map inj, ih]
  exact go xs []

theorem is_int {K : PySem.W.Frag} : PySem.W.kitOne K (.type "int") (.type "int") = some true := rfl
theorem is_intb {K : PySem.W.Frag} : PySem.W.kitOne K (.type "int") (.type "bool") = some false := rfl
theorem any_ints (i : Int) : ∀ ns : List Int, inV (V.int i) (ns.map V.int) = decide (i ∈ ns)
  | [] => rfl
  | n :: ns => by
    have ih := any_ints i ns
    unfold inV at ih ⊢
    rw [List.map_cons, List.any_cons, ih]
    have e : eqV (V.int n) (V.int i) = decide (n = i) := by
      show (n == i) = _
      rw [Bool.eq_iff_iff, beq_iff_eq, decide_eq_true_eq]
    rw [e, Bool.eq_iff_iff, Bool.or_eq_true, decide_eq_true_eq, decide_eq_true_eq, decide_eq_true_eq, List.mem_cons]
    exact ⟨fun z => z.imp Eq.symm id, fun z => z.imp Eq.symm id⟩
theorem flat_ints : ∀ ns : List Int, (ns.map V.int).all flatV = true
  | [] => rfl
  | n :: ns => by rw [List.map_cons, List.all_cons, flat_ints ns]; rfl

theorem flat_take {α β : Type} (f : α → List β) {xs : List α} {i : Nat} {x : α} (h : xs[i]? = some x) : (xs.take (i + 1)).flatMap f = (xs.take i).flatMap f ++ f x := by
  rw [take_get h, List.flatMap_append, List.flatMap_singleton]

def gKey (u : Mv) : List Key := [Sum.inl u.2.2, Sum.inr u.2.1]
def InB (_ : Hp) (u : Mv) (v : V) : Prop := v = .int u.1
theorem inb_gt : ∀ (H H' : Hp) (t : Mv) (v : V), GT H H' → InB H t v → InB H' t v := fun _ _ _ _ _ h => h
def StaD (H0 H : Hp) (ms : List Mv) (v : V) : Prop := ∃ d kvs, v = .ref d ∧ H0 d = none ∧ H d = some (.dT kvs) ∧ Bk InB gKey H0 H d ms kvs
def spStarts (K : PySem.W.Frag) : Sp := fun vs H Q _ => ∃ v s pb ps pe, vs = [v] ∧ ScV K H s v pb ps pe ∧ s.steps.length ≤ 99 ∧ ∀ v' H', Same H H' → StaD H H' (mvs s.steps) v' → Q v' H'
def pKey (S : List Stp) (i : Nat) : List Key := match S[i]? with | some t => [Sum.inl t.1, Sum.inr t.2.1] | none => []
def isQ (_ : Hp) (i : Nat) (v : V) : Prop := v = .int i
theorem isq_gt : ∀ (H H' : Hp) (t : Nat) (v : V), GT H H' → isQ H t v → isQ H' t v := fun _ _ _ _ _ h => h
def PlaD (H0 H : Hp) (S : List Stp) (v : V) : Prop := ∃ d kvs, v = .ref d ∧ H0 d = none ∧ H d = some (.dT kvs) ∧ Bk isQ (pKey S) H0 H d (List.range S.length) kvs
def spPlacesBy (K : PySem.W.Frag) : Sp := fun vs H Q _ => ∃ (p : Addr) (S : List Stp), vs = [.ref p] ∧ StL K H p S ∧ S.length ≤ 99 ∧ ∀ v' H', Same H H' → PlaD H H' S v' → Q v' H'
def firstIn (R : List Int) : List Int → Nat → Option Nat
  | [], _ => none
  | m :: ms, i => if m ∈ R then some i else firstIn R ms (i + 1)
def optI : Option Nat → V
  | none => .non
  | some i => .int i
def onG (ms : List Mv) (c : Str) (g : Int) : List Int := (ms.filter fun u => decide (gKey u = [Sum.inl g, Sum.inr c])).map (·.1)
def aheadL (ms : List Mv) (c : Str) (R : List Int) : List Int := R.flatMap (onG ms c)
theorem inb_eq {H : Hp} : ∀ {us : List Mv} {ys : List V}, Paired (InB H) us ys → ys = (us.map (·.1)).map V.int
  | _, _, .nil => rfl
  | _, _, .cons h t => by rw [inb_eq t, h]; rfl
theorem StaD.mono {H0 H H' : Hp} {ms : List Mv} {v : V} (g : Same H H') : StaD H0 H ms v → StaD H0 H' ms v := fun ⟨d, kvs, e, h0, h1, h2⟩ => ⟨d, kvs, e, h0, g _ _ h1, h2.mono inb_gt g⟩
theorem StaD.get2 {H0 H : Hp} {ms : List Mv} {v : V} {g : Int} {c : Str} {p l : Addr} (h : StaD H0 H ms v) (hp : H p = some (.tup [V.int g, V.str c])) (hl : H l = some (.lst [])) :
    ∃ d o la, v = .ref d ∧ DGet H d (.ref p) o ∧ o.getD (.ref l) = .ref la ∧ H la = some (.lst ((onG ms c g).map V.int)) := by
  obtain ⟨d, kvs, e, h0, h1, h2⟩ := h
  have hg : DGet H d (.ref p) (valV kvs [Sum.inl g, Sum.inr c]) := DGet.t h1 hp
  cases ho : valV kvs [Sum.inl g, Sum.inr c] with
  | none => exact ⟨d, none, l, e, ho ▸ hg, rfl, by unfold onG; rw [h2.nokey _ ho]; exact hl⟩
  | some u =>
    obtain ⟨l1, ys, rfl, _, _, h4, h5, _⟩ := h2.there _ _ ho
    exact ⟨d, _, l1, e, ho ▸ hg, rfl, by unfold onG; rw [h4, inb_eq h5]⟩
theorem StaD.ty {K : PySem.W.Frag} {H0 H : Hp} {ms : List Mv} {v : V} (h : StaD H0 H ms v) : tyV K "dict" v H := by
  obtain ⟨d, kvs, rfl, _, hd, _⟩ := h
  exact .inr (.inr (.inl ⟨rfl, .inr ⟨kvs, hd⟩⟩))
def spAhead (K : PySem.W.Frag) : Sp := fun vs H Q _ => ∃ (r : Addr) (R : List Int) (c : Str) (v : V) (ms : List Mv) (H0 : Hp), vs = [.ref r, .str c, v] ∧ SqL K H r (R.map V.int) ∧ R.length ≤ 99 ∧ (aheadL ms c R).length ≤ 9999 ∧ (onceM (aheadL ms c R)).length ≤ 60 ∧ StaD H0 H ms v ∧ ∀ (l : Addr) (H' : Hp) (ns' : List Int), Same H H' → H l = none → ns'.Perm (onceM (aheadL ms c R)) → ns'.Pairwise (· ≤ ·) → H' l = some (.lst (ns'.map V.int)) → Q (.ref l) H'
theorem paired_getL {α β : Type} {F : α → β → Prop} {xs : List α} {ys : List β} {i : Nat} {x : α} (h : Paired F xs ys) (hx : xs[i]? = some x) : ∃ y, ys[i]? = some y ∧ F x y := by
  have hi : i < ys.length := by rw [← h.length]; exact (List.getElem?_eq_some_iff.mp hx).1
  obtain ⟨x', h1, h2⟩ := paired_get h (List.getElem?_eq_getElem hi)
  rw [hx] at h1
  cases h1
  exact ⟨_, List.getElem?_eq_getElem hi, h2⟩
def farM (f : Int) (m : Mk) : Mk := (m.1 + f, m.2)
def farT (f : Int) (t : Stp) : Stp := (t.1 + f, t.2.1, t.2.2.1, t.2.2.2 + f)
def farS (f : Int) (s : Scr) : Scr := ⟨s.signs, s.rooms + f, s.begins.map (farM f), s.steps.map (farT f), s.ends.map (farM f)⟩
def spFar (K : PySem.W.Frag) : Sp := fun vs H Q _ => ∃ v s pb ps pe f, vs = [v, .int f] ∧ ScV K H s v pb ps pe ∧ s.begins.length ≤ 99 ∧ s.steps.length ≤ 99 ∧ s.ends.length ≤ 99 ∧ ∀ v' H' pb' ps' pe', Same H H' → ScV K H' (farS f s) v' pb' ps' pe' → Q v' H'
def spText : Sp := fun vs H Q _ => ∃ (c : Int) (g : Str), vs = [.int c, .str g] ∧ 1 ≤ g.length ∧ g.length ≤ 5 ∧ ∀ y : Str, y.length ≤ 12 → Q (.str y) H
def sayGo (S : List Stp) (w : Str) (is : List Int) : Str := is.foldl (fun w i => w ++ ((S[i.toNat]?).map (·.2.2.1)).getD (Str.ofString "")) w
theorem say_take {S : List Stp} {w : Str} {is : List Int} {k : Nat} {i : Int} {t : Stp} (h : is[k]? = some i) (ht : S[i.toNat]? = some t) : sayGo S w (is.take (k + 1)) = sayGo S w (is.take k) ++ t.2.2.1 := by
  unfold sayGo
  rw [take_get h, List.foldl_append, List.foldl_cons, List.foldl_nil, ht]; rfl
def spSays (K : PySem.W.Frag) : Sp := fun vs H Q _ => ∃ v s pb ps pe wv y m e, vs = [v, wv] ∧ ScV K H s v pb ps pe ∧ WyV K H y wv ∧ inR s.begins.length y.b ∧ s.begins[y.b.toNat]? = some m ∧ (∀ i ∈ y.row, inR s.steps.length i) ∧ inR s.ends.length y.e ∧ s.ends[y.e.toNat]? = some e ∧ Short s ∧ y.row.length ≤ 100 ∧ Q (.str (sayGo s.steps m.2 y.row ++ e.2)) H
theorem at_inR {α : Type} {xs : List α} {i : Int} {v : α} (h : inR xs.length i) (hv : xs[i.toNat]? = some v) : atI xs i = some v := by
  obtain ⟨j, rfl⟩ := Int.eq_ofNat_of_zero_le h.1
  exact atI_nat hv
def dWy (y : Wy) : D := .tup [.int y.b, .lst (y.row.map D.int), .int y.e]
theorem WyV.rep {K : PySem.W.Frag} {H : Hp} {y : Wy} {v : V} : WyV K H y v → Rep K H (dWy y) v
  | ⟨_, _, e, h, h'⟩ => by subst e; exact rep_tup h (.cons (rep_int _) (.cons (rep_lst (SqL.of h') (Reps.map D.int V.int (fun i => rep_int i) _)) (.cons (rep_int _) .nil)))
theorem deep_dWy (y : Wy) : deep (dWy y) ≤ 3 := by
  have := deeps_map D.int 0 (fun _ => by simp [deep]) y.row
  unfold dWy
  simp only [deep, deeps]; omega
def spSame (K : PySem.W.Frag) : Sp := fun vs H Q _ => ∃ fv dv, vs = [fv, dv] ∧ ((fv = .non ∧ dv = .non) ∨ ∃ y, WyV K H y fv ∧ WyV K H y dv ∧ y.row.length ≤ 100) ∧ ∀ H', Same H H' → Q (.bl true) H'
def goes (S : List Stp) (E : List Int) : List Nat → Int → Bool
  | [], x => decide (x ∈ E)
  | c :: r, x => S.any fun t => decide (t.1 = x) && decide (t.2.1 = ⟨#[c]⟩) && goes S E r t.2.2.2
theorem once_iff {α : Type} [DecidableEq α] {xs : List α} {x : α} : x ∈ onceM xs ↔ x ∈ xs := by
  have go : ∀ (xs acc : List α), x ∈ xs.foldl addM acc ↔ x ∈ acc ∨ x ∈ xs := by
    intro xs
    induction xs with
    | nil => intro acc; simp
    | cons y ys ih =>
      intro acc
      rw [List.foldl_cons, ih]
      unfold addM
      by_cases c : y ∈ acc
      · rw [if_pos c, List.mem_cons]
        exact ⟨fun z => z.imp id .inr, fun z => z.elim .inl fun z => z.elim (fun e => .inl (e ▸ c)) .inr⟩
      · rw [if_neg c, List.mem_append, List.mem_singleton, List.mem_cons, or_assoc]
  exact (go xs []).trans (by simp)
theorem mem_ahead {S : List Stp} {c : Str} {R : List Int} {x : Int} : x ∈ aheadL (mvs S) c R ↔ ∃ t, t ∈ S ∧ t.1 = x ∧ t.2.1 = c ∧ t.2.2.2 ∈ R := by
  unfold aheadL onG mvs
  simp only [List.mem_flatMap, List.mem_map, List.mem_filter, once_iff, decide_eq_true_eq]
  constructor
  · rintro ⟨g, hg, u, ⟨⟨t, ht, rfl⟩, hk⟩, rfl⟩
    unfold gKey mvOf at hk
    simp only [List.cons.injEq, Sum.inl.injEq, Sum.inr.injEq, and_true] at hk
    exact ⟨t, ht, rfl, hk.2, by rw [hk.1]; exact hg⟩
  · rintro ⟨t, ht, rfl, rfl, hg⟩
    exact ⟨_, hg, mvOf t, ⟨⟨t, ht, rfl⟩, rfl⟩, rfl⟩
theorem goes_ahead {S : List Stp} {E : List Int} {c : Nat} {r : List Nat} {R : List Int} (h : ∀ y, y ∈ R ↔ goes S E r y = true) {ns : List Int} (hp : ns.Perm (onceM (aheadL (mvs S) ⟨#[c]⟩ R))) (x : Int) : x ∈ ns ↔ goes S E (c :: r) x = true := by
  rw [hp.mem_iff, once_iff, mem_ahead, goes, List.any_eq_true]
  simp only [Bool.and_eq_true, decide_eq_true_eq]
  constructor
  · rintro ⟨t, ht, h1, h2, h3⟩
    exact ⟨t, ht, ⟨h1, h2⟩, (h _).mp h3⟩
  · rintro ⟨t, ht, ⟨h1, h2⟩, h3⟩
    exact ⟨t, ht, h1, h2, (h _).mpr h3⟩
def dk (k : Nat) (r : Int) : List Key := [Sum.inl (k : Int), Sum.inl r]
theorem dk_eq {k k' : Nat} {r r' : Int} : dk k r = dk k' r' ↔ k = k' ∧ r = r' := by
  unfold dk
  simp only [List.cons.injEq, Sum.inl.injEq, and_true]
  omega
abbrev goS (s : Scr) (x : Str) (k : Nat) (r : Int) : Bool := goes s.steps (s.ends.map (·.1)) ((cl x).drop k) r
def DeadP (s : Scr) (x : Str) (kvs : List (List Key × V)) (k0 : Nat) (i : Int) : Prop := ∀ (k : Nat) (r : Int), valV kvs (dk k r) ≠ none ↔ (0 ≤ r ∧ r < s.rooms) ∧ k ≤ x.length ∧ goS s x k r = false ∧ (k0 < k ∨ (k = k0 ∧ r < i))
theorem DeadP.skip {s : Scr} {x : Str} {kvs : List (List Key × V)} {k0 : Nat} {i : Int} (h : DeadP s x kvs k0 i) (hg : goS s x k0 i = true) : DeadP s x kvs k0 (i + 1) := fun k r => by
  rw [h k r]
  constructor
  · rintro ⟨h1, h2, h3, h4⟩
    exact ⟨h1, h2, h3, by omega⟩
  · rintro ⟨h1, h2, h3, h4⟩
    refine ⟨h1, h2, h3, ?_⟩
    rcases h4 with h4 | ⟨rfl, h4⟩
    · exact .inl h4
    · by_cases c : r = i
      · rw [c, hg] at h3; cases h3
      · exact .inr ⟨rfl, by omega⟩
theorem DeadP.put {s : Scr} {x : Str} {kvs : List (List Key × V)} {k0 : Nat} {i : Int} {v : V} (h : DeadP s x kvs k0 i) (hk : k0 ≤ x.length) (h0 : 0 ≤ i) (h1 : i < s.rooms) (hg : goS s x k0 i = false) : DeadP s x (putK kvs (dk k0 i) v) k0 (i + 1) := fun k r => by
  rw [valV_put]
  by_cases c : dk k r = dk k0 i
  · obtain ⟨rfl, rfl⟩ := dk_eq.mp c
    rw [if_pos c]
    exact ⟨fun _ => ⟨⟨h0, h1⟩, hk, hg, .inr ⟨rfl, by omega⟩⟩, fun _ z => nomatch z⟩
  · rw [if_neg c, h k r]
    constructor
    · rintro ⟨h1, h2, h3, h4⟩
      exact ⟨h1, h2, h3, by omega⟩
    · rintro ⟨h1, h2, h3, h4⟩
      refine ⟨h1, h2, h3, ?_⟩
      rcases h4 with h4 | ⟨rfl, h4⟩
      · exact .inl h4
      · by_cases e : r = i
        · exact absurd (dk_eq.mpr ⟨rfl, e⟩) c
        · exact .inr ⟨rfl, by omega⟩
theorem DeadP.down {s : Scr} {x : Str} {kvs : List (List Key × V)} {k0 : Nat} (h : DeadP s x kvs (k0 + 1) s.rooms) : DeadP s x kvs k0 0 := fun k r => by
  rw [h k r]
  constructor
  · rintro ⟨h1, h2, h3, h4⟩
    exact ⟨h1, h2, h3, by omega⟩
  · rintro ⟨h1, h2, h3, h4⟩
    exact ⟨h1, h2, h3, by omega⟩
def nearL (S : List Stp) (i : Int) (c : Str) : List Int := (S.filter fun t => decide (t.1 = i) && decide (t.2.1 = c)).map (·.2.2.2)
theorem near_snoc {S : List Stp} {n : Nat} {t : Stp} (h : S[n]? = some t) (i : Int) (c : Str) : nearL (S.take (n + 1)) i c = nearL (S.take n) i c ++ if t.1 = i ∧ t.2.1 = c then [t.2.2.2] else [] := by
  unfold nearL
  rw [take_get h, filter_snoc, List.map_append]
  congr 1
  by_cases z : t.1 = i ∧ t.2.1 = c
  · rw [if_pos z, if_pos (by simp [z.1, z.2])]; rfl
  · rw [if_neg z, if_neg (by simpa using z)]; rfl
theorem near_len (S : List Stp) (n : Nat) (i : Int) (c : Str) : (nearL (S.take n) i c).length ≤ n := by
  unfold nearL
  rw [List.length_map]
  exact Nat.le_trans (List.length_filter_le _ _) (by rw [List.length_take]; omega)
theorem near_none {s : Scr} {x : Str} {kvs : List (List Key × V)} {k c : Nat} {i j : Int} (h : DeadP s x kvs k j) (hd : (cl x).drop k = c :: (cl x).drop (k + 1)) (hk : k < x.length) (hr : ∀ t, t ∈ s.steps → 0 ≤ t.2.2.2 ∧ t.2.2.2 < s.rooms) : ((nearL s.steps i ⟨#[c]⟩).filter fun o => (valV kvs (dk (k + 1) o)).isNone) = [] ↔ goS s x k i = false := by
  have key : ∀ t, t ∈ s.steps → ((valV kvs (dk (k + 1) t.2.2.2)).isNone = true ↔ goS s x (k + 1) t.2.2.2 = true) := fun t ht => by
    have := h (k + 1) t.2.2.2
    rw [Option.isNone_iff_eq_none]
    constructor
    · intro z
      cases hg : goS s x (k + 1) t.2.2.2 with
      | true => rfl
      | false => exact absurd z (this.mpr ⟨hr t ht, hk, hg, .inl (Nat.lt_succ_self _)⟩)
    · intro z
      by_cases c : valV kvs (dk (k + 1) t.2.2.2) = none
      · exact c
      · have := (this.mp c).2.2.1; rw [z] at this; cases this
  show _ ↔ goes s.steps (s.ends.map (·.1)) ((cl x).drop k) i = false
  rw [hd, goes, List.filter_eq_nil_iff, List.any_eq_false]
  unfold nearL
  constructor
  · intro z t ht e
    simp only [Bool.and_eq_true, decide_eq_true_eq] at e
    exact z t.2.2.2 (List.mem_map.mpr ⟨t, List.mem_filter.mpr ⟨ht, by simp [e.1.1, e.1.2]⟩, rfl⟩) ((key t ht).mpr e.2)
  · rintro z o ho e
    obtain ⟨t, ht, rfl⟩ := List.mem_map.mp ho
    obtain ⟨ht, h2⟩ := List.mem_filter.mp ht
    refine z t ht ?_
    rw [h2, Bool.true_and]
    exact (key t ht).mp e
def spDead (K : PySem.W.Frag) : Sp := fun vs H Q _ => ∃ (v : V) (s : Scr) (pb ps pe : Addr) (x : Str), vs = [v, .str x] ∧ ScV K H s v pb ps pe ∧ 0 ≤ s.rooms ∧ s.rooms ≤ 14 ∧ s.ends.length ≤ 99 ∧ s.steps.length ≤ 99 ∧ x.length ≤ 62 ∧ (∀ t, t ∈ s.steps → 0 ≤ t.2.2.2 ∧ t.2.2.2 < s.rooms) ∧ ∀ (d : Addr) (H' : Hp) (kvs : List (List Key × V)), Same H H' → H d = none → H' d = some (.dT kvs) → (∀ (k : Nat) (r : Int), k ≤ x.length → (valV kvs (dk k r) ≠ none ↔ (0 ≤ r ∧ r < s.rooms) ∧ goS s x k r = false)) → Q (.ref d) H'
def goalAt (S : List Stp) (i : Nat) : Int := match S[i]? with | some t => t.2.2.2 | none => 0
def stepIn (S : List Stp) (R : List Int) (i : Nat) : Bool := decide (goalAt S i ∈ R)
def spInto (K : PySem.W.Frag) : Sp := fun vs H Q _ => ∃ (r pl ps : Addr) (R : List Int) (is : List Nat) (S : List Stp), vs = [.ref r, .ref pl, .ref ps] ∧ SqL K H r (R.map V.int) ∧ SqL K H pl (is.map fun (i : Nat) => V.int i) ∧ StL K H ps S ∧ (∀ i ∈ is, i < S.length) ∧ S.length ≤ 99 ∧ Q (optI (is.find? (stepIn S R))) H
def spFirstM (K : PySem.W.Frag) : Sp := fun vs H Q _ => ∃ (p r : Addr) (M : List Mk) (R : List Int), vs = [.ref p, .ref r] ∧ MkL K H p M ∧ SqL K H r (R.map V.int) ∧ M.length ≤ 99 ∧ R.length ≤ 99 ∧ ∀ H', Same H H' → Q (optI (firstIn R (M.map (·.1)) 0)) H'

def firstP (p : Int → Bool) : List Int → Nat → Option Nat
  | [], _ => none
  | m :: ms, i => if p m = true then some i else firstP p ms (i + 1)
theorem firstIn_P {R : List Int} {p : Int → Bool} (h : ∀ y, y ∈ R ↔ p y = true) : ∀ (ms : List Int) (i : Nat), firstIn R ms i = firstP p ms i
  | [], _ => rfl
  | m :: ms, i => by
    unfold firstIn firstP
    rw [firstIn_P h ms]
    by_cases c : m ∈ R
    · rw [if_pos c, if_pos ((h m).mp c)]
    · rw [if_neg c, if_neg (fun z => c ((h m).mpr z))]
def stQ (r : Int) (c : Nat) (t : Stp) : Bool := decide (t.1 = r) && decide (t.2.1 = ⟨#[c]⟩)
def okI (S : List Stp) (E : List Int) (ks : List Nat) (r : Int) (c i : Nat) : Bool := match S[i]? with
  | some t => stQ r c t && goes S E ks t.2.2.2
  | none => false
def nxI (S : List Stp) (E : List Int) (ks : List Nat) (r : Int) (c : Nat) : Option Nat := (List.range S.length).find? (okI S E ks r c)
def wayGo (S : List Stp) (E : List Int) : List Nat → Int → List Int × Int
  | [], r => ([], r)
  | c :: ks, r => match nxI S E ks r c with
    | none => ([], r)
    | some i => (((i : Nat) : Int) :: (wayGo S E ks (goalAt S i)).1, (wayGo S E ks (goalAt S i)).2)
def endsI (s : Scr) : List Int := s.ends.map (·.1)
def fwS (s : Scr) (x : Str) : Option Wy := (firstP (goes s.steps (endsI s) (cl x)) (s.begins.map (·.1)) 0).map fun (b : Nat) =>
  ⟨(b : Int), (wayGo s.steps (endsI s) (cl x) ((s.begins.map (·.1)).getD b 0)).1, ((firstP (fun m => decide (m = (wayGo s.steps (endsI s) (cl x) ((s.begins.map (·.1)).getD b 0)).2)) (endsI s) 0).getD 0 : Nat)⟩
theorem goes_some {S : List Stp} {E : List Int} {c : Nat} {ks : List Nat} {r : Int} (h : goes S E (c :: ks) r = true) : ∃ i t, nxI S E ks r c = some i ∧ S[i]? = some t ∧ t.1 = r ∧ t.2.1 = ⟨#[c]⟩ ∧ goes S E ks t.2.2.2 = true ∧ goalAt S i = t.2.2.2 := by
  rw [goes, List.any_eq_true] at h
  obtain ⟨t, ht, hp⟩ := h
  obtain ⟨j, hj⟩ := List.getElem?_of_mem ht
  have hjl : j < S.length := (List.getElem?_eq_some_iff.mp hj).1
  cases hf : nxI S E ks r c with
  | none =>
    exfalso
    have := List.find?_eq_none.mp hf j (List.mem_range.mpr hjl)
    unfold okI at this
    rw [hj] at this
    exact this hp
  | some i =>
    have h2 := List.find?_some hf
    unfold okI at h2
    cases hi : S[i]? with
    | none => rw [hi] at h2; cases h2
    | some u =>
      rw [hi] at h2
      unfold stQ at h2
      simp only [Bool.and_eq_true, decide_eq_true_eq] at h2
      exact ⟨i, u, rfl, hi, h2.1.1, h2.1.2, h2.2, by unfold goalAt; rw [hi]⟩
theorem way_cons {S : List Stp} {E : List Int} {c i : Nat} {ks : List Nat} {r : Int} (h : nxI S E ks r c = some i) : wayGo S E (c :: ks) r = (((i : Nat) : Int) :: (wayGo S E ks (goalAt S i)).1, (wayGo S E ks (goalAt S i)).2) := by
  rw [wayGo, h]
def spFirst (K : PySem.W.Frag) : Sp := fun vs H Q _ => ∃ (v : V) (s : Scr) (pb ps pe : Addr) (x : Str), vs = [v, .str x] ∧ ScV K H s v pb ps pe ∧ 0 ≤ s.rooms ∧ s.rooms ≤ 14 ∧ s.begins.length ≤ 99 ∧ s.ends.length ≤ 99 ∧ s.steps.length ≤ 99 ∧ x.length ≤ 62 ∧ (∀ m ∈ s.begins, 0 ≤ m.1 ∧ m.1 < s.rooms) ∧ (∀ t, t ∈ s.steps → 0 ≤ t.2.2.2 ∧ t.2.2.2 < s.rooms) ∧
  (fwS s x = none → ∀ H', Same H H' → Q .non H') ∧ ∀ y, fwS s x = some y → ∀ wv H', Same H H' → WyV K H' y wv → Q wv H'
theorem goes_end {S : List Stp} {E : List Int} : ∀ (ks : List Nat) (r : Int), goes S E ks r = true → (wayGo S E ks r).2 ∈ E
  | [], r, h => by rw [goes] at h; exact of_decide_eq_true h
  | c :: ks, r, h => by
    obtain ⟨i, t, h1, h2, _, _, h5, h6⟩ := goes_some h
    rw [way_cons h1, h6]
    exact goes_end ks _ h5
theorem firstP_at {p : Int → Bool} : ∀ (ms : List Int) (k j : Nat), firstP p ms k = some j → k ≤ j ∧ ∃ m, ms[j - k]? = some m ∧ p m = true
  | [], _, _, h => nomatch h
  | m :: ms, k, j, h => by
    unfold firstP at h
    by_cases c : p m = true
    · rw [if_pos c] at h
      injection h with h
      subst h
      exact ⟨Nat.le_refl _, m, by rw [Nat.sub_self]; rfl, c⟩
    · rw [if_neg c] at h
      obtain ⟨h1, m', h2, h3⟩ := firstP_at ms (k + 1) j h
      refine ⟨by omega, m', ?_, h3⟩
      rw [show j - k = (j - (k + 1)) + 1 by omega]; exact h2
theorem firstP_least {p : Int → Bool} : ∀ (ms : List Int) (k j : Nat), firstP p ms k = some j → ∀ n, k + n < j → ∀ m, ms[n]? = some m → p m ≠ true
  | [], _, _, h, _, _, _, _ => nomatch h
  | a :: ms, k, j, h, n, hn, m, hm => by
    unfold firstP at h
    by_cases c : p a = true
    · rw [if_pos c] at h
      injection h with h
      omega
    · rw [if_neg c] at h
      cases n with
      | zero => injection hm with hm; subst hm; exact c
      | succ n => exact firstP_least ms (k + 1) j h n (by omega) m hm
theorem firstP_some {p : Int → Bool} : ∀ (ms : List Int) (k : Nat) {m : Int}, m ∈ ms → p m = true → ∃ j, firstP p ms k = some j
  | [], _, _, h, _ => nomatch h
  | a :: ms, k, m, h, hp => by
    unfold firstP
    by_cases c : p a = true
    · exact ⟨k, by rw [if_pos c]⟩
    · rw [if_neg c]
      rcases List.mem_cons.mp h with e | h
      · rw [e] at hp; exact absurd hp c
      · exact firstP_some ms (k + 1) h hp

def strOf (ks : List Nat) : Str := ⟨ks.toArray⟩
theorem cl_strOf (ks : List Nat) : cl (strOf ks) = ks := rfl
theorem strOf_cl (x : Str) : strOf (cl x) = x := str_ext (cl_strOf _)
theorem walk_cons (s : Scr) (c : Int × Str × Str) (i : Int) (is : List Int) : walkM s c (i :: is) = (stepM s c i).bind fun d => walkM s d is := by
  unfold walkM
  rw [List.foldl_cons]
  show is.foldl _ (stepM s c i) = _
  cases stepM s c i with
  | none => exact walk_none s is
  | some d => rfl
theorem say_cons {S : List Stp} {w : Str} {i : Nat} {is : List Int} {t : Stp} (h : S[i]? = some t) : sayGo S w (((i : Nat) : Int) :: is) = sayGo S (w ++ t.2.2.1) is := by
  unfold sayGo
  rw [List.foldl_cons, Int.toNat_natCast, h]; rfl
theorem way_walk {s : Scr} {E : List Int} : ∀ (ks : List Nat) (r : Int) (u w : Str), goes s.steps E ks r = true →
    walkM s (r, u, w) (wayGo s.steps E ks r).1 = some ((wayGo s.steps E ks r).2, u ++ strOf ks, sayGo s.steps w (wayGo s.steps E ks r).1)
  | [], r, u, w, _ => by
    show some (r, u, w) = some (r, u ++ strOf [], w)
    rw [show strOf [] = ("" : Str) from str_ext (by decide +kernel), app_nil]
  | c :: ks, r, u, w, h => by
    obtain ⟨i, t, h1, h2, h3, h4, h5, h6⟩ := goes_some h
    have hil : i < s.steps.length := (List.getElem?_eq_some_iff.mp h2).1
    rw [way_cons h1, h6, walk_cons]
    have hs : stepM s (r, u, w) ((i : Nat) : Int) = some (t.2.2.2, u ++ t.2.1, w ++ t.2.2.1) := by
      unfold stepM
      rw [if_pos ⟨by omega, by omega⟩, Int.toNat_natCast, h2]
      show (if t.1 = r then _ else _) = _
      rw [if_pos h3]
    rw [hs]
    show walkM s (t.2.2.2, u ++ t.2.1, w ++ t.2.2.1) (wayGo s.steps E ks t.2.2.2).1 = _
    rw [way_walk ks t.2.2.2 (u ++ t.2.1) (w ++ t.2.2.1) h5, say_cons h2, h4]
    have e : u ++ ⟨#[c]⟩ ++ strOf ks = u ++ strOf (c :: ks) := str_ext (by simp only [cl_append, List.append_assoc]; rfl)
    rw [e]
theorem way_in {S : List Stp} {E : List Int} : ∀ (ks : List Nat) (r : Int), ∀ i ∈ (wayGo S E ks r).1, inR S.length i
  | [], _, _, h => nomatch h
  | c :: ks, r, i, h => by
    rw [wayGo] at h
    cases hn : nxI S E ks r c with
    | none => rw [hn] at h; cases h
    | some k =>
      rw [hn] at h
      rcases List.mem_cons.mp h with rfl | h
      · have := List.mem_range.mp (List.mem_of_find?_eq_some hn)
        exact ⟨by omega, by omega⟩
      · exact way_in ks _ i h
theorem way_len {S : List Stp} {E : List Int} : ∀ (ks : List Nat) (r : Int), (wayGo S E ks r).1.length ≤ ks.length
  | [], _ => Nat.le_refl _
  | c :: ks, r => by
    rw [wayGo]
    cases nxI S E ks r c with
    | none => exact Nat.zero_le _
    | some k =>
      have := way_len (S := S) (E := E) ks (goalAt S k)
      show (_ :: _).length ≤ _
      rw [List.length_cons, List.length_cons]; omega
theorem fw_parts {s : Scr} {x : Str} {y : Wy} (h : fwS s x = some y) : ∃ (b e : Nat) (m n : Mk), s.begins[b]? = some m ∧ s.ends[e]? = some n ∧ y.b = b ∧ y.e = e ∧ y.row = (wayGo s.steps (endsI s) (cl x) m.1).1 ∧ goes s.steps (endsI s) (cl x) m.1 = true ∧ n.1 = (wayGo s.steps (endsI s) (cl x) m.1).2 ∧ y.row.length ≤ x.length ∧ ∀ i ∈ y.row, inR s.steps.length i := by
  unfold fwS at h
  obtain ⟨b, hb, rfl⟩ := Option.map_eq_some_iff.mp h
  obtain ⟨_, r, hr, hg⟩ := firstP_at _ _ _ hb
  rw [Nat.sub_zero, List.getElem?_map] at hr
  obtain ⟨m, hm, rfl⟩ := Option.map_eq_some_iff.mp hr
  have hgd : (s.begins.map (·.1)).getD b 0 = m.1 := by rw [List.getD_eq_getElem?_getD, List.getElem?_map, hm]; rfl
  rw [hgd]
  obtain ⟨e, he⟩ := firstP_some (p := fun k => decide (k = (wayGo s.steps (endsI s) (cl x) m.1).2)) (endsI s) 0 (goes_end _ _ hg) (decide_eq_true rfl)
  obtain ⟨_, r2, hr2, hp2⟩ := firstP_at _ _ _ he
  rw [Nat.sub_zero] at hr2
  have hr2 : (s.ends.map (·.1))[e]? = some r2 := hr2
  rw [List.getElem?_map] at hr2
  obtain ⟨n, hn, rfl⟩ := Option.map_eq_some_iff.mp hr2
  refine ⟨b, e, m, n, hm, hn, rfl, by rw [he]; rfl, rfl, hg, of_decide_eq_true hp2, ?_, way_in _ _⟩
  have := way_len (S := s.steps) (E := endsI s) (cl x) m.1
  rw [cl_length] at this; exact this
def wordY (s : Scr) (y : Wy) : Str := sayGo s.steps (((s.begins[y.b.toNat]?).map (·.2)).getD ("" : Str)) y.row ++ ((s.ends[y.e.toNat]?).map (·.2)).getD ("" : Str)
theorem fw_walked {s : Scr} {x : Str} {y : Wy} (h : fwS s x = some y) : walkedM s y = some (x, wordY s y) := by
  obtain ⟨b, e, m, n, hm, hn, yb, ye, yr, hg, hne, _, _⟩ := fw_parts h
  have hbl : b < s.begins.length := (List.getElem?_eq_some_iff.mp hm).1
  have hel : e < s.ends.length := (List.getElem?_eq_some_iff.mp hn).1
  have hw := way_walk (s := s) (cl x) m.1 "" m.2 hg
  rw [← yr, nil_app, strOf_cl] at hw
  unfold walkedM markAt wordY
  rw [yb, ye, if_pos ⟨by omega, by omega⟩, if_pos ⟨by omega, by omega⟩, Int.toNat_natCast, Int.toNat_natCast, hm, hn]
  show (walkM s (m.1, "", m.2) y.row).bind _ = _
  rw [hw]
  show (if n.1 = _ then _ else _) = _
  rw [if_pos hne]; rfl
theorem goes_far {S : List Stp} {E : List Int} {f : Int} : ∀ (ks : List Nat) (r : Int), goes (S.map (farT f)) (E.map (· + f)) ks (r + f) = goes S E ks r
  | [], r => by
    unfold goes
    refine decide_eq_decide.mpr ?_
    rw [List.mem_map]
    exact ⟨fun ⟨z, h1, h2⟩ => by rw [show r = z by omega]; exact h1, fun h => ⟨r, h, rfl⟩⟩
  | c :: ks, r => by
    unfold goes
    rw [List.any_map]
    congr 1
    funext t
    show (decide (t.1 + f = r + f) && decide (t.2.1 = _) && goes (S.map (farT f)) (E.map (· + f)) ks (t.2.2.2 + f)) = _
    rw [goes_far ks t.2.2.2, decide_eq_decide.mpr (show t.1 + f = r + f ↔ t.1 = r from ⟨fun h => by omega, fun h => by omega⟩)]
theorem nx_far {S : List Stp} {E : List Int} {f : Int} (ks : List Nat) (r : Int) (c : Nat) : nxI (S.map (farT f)) (E.map (· + f)) ks (r + f) c = nxI S E ks r c := by
  unfold nxI
  rw [List.length_map]
  congr 1
  funext i
  unfold okI
  rw [List.getElem?_map]
  cases S[i]? with
  | none => rfl
  | some t =>
    show (stQ (r + f) c (farT f t) && goes _ _ ks (t.2.2.2 + f)) = _
    rw [goes_far]
    congr 1
    unfold stQ
    show (decide (t.1 + f = r + f) && _) = _
    rw [decide_eq_decide.mpr (show t.1 + f = r + f ↔ t.1 = r from ⟨fun h => by omega, fun h => by omega⟩)]; rfl
theorem way_far {S : List Stp} {E : List Int} {f : Int} : ∀ (ks : List Nat) (r : Int), wayGo (S.map (farT f)) (E.map (· + f)) ks (r + f) = ((wayGo S E ks r).1, (wayGo S E ks r).2 + f)
  | [], r => rfl
  | c :: ks, r => by
    rw [wayGo, wayGo, nx_far]
    cases hn : nxI S E ks r c with
    | none => rfl
    | some i =>
      have hil := List.mem_range.mp (List.mem_of_find?_eq_some hn)
      have hg : goalAt (S.map (farT f)) i = goalAt S i + f := by
        unfold goalAt
        rw [List.getElem?_map, List.getElem?_eq_getElem hil]; rfl
      show (_ :: (wayGo _ _ ks (goalAt (S.map (farT f)) i)).1, (wayGo _ _ ks (goalAt (S.map (farT f)) i)).2) = _
      rw [hg, way_far ks (goalAt S i)]
theorem firstP_map {p p' : Int → Bool} {g : Int → Int} (h : ∀ m, p' (g m) = p m) : ∀ (ms : List Int) (k : Nat), firstP p' (ms.map g) k = firstP p ms k
  | [], _ => rfl
  | m :: ms, k => by rw [List.map_cons, firstP, firstP, h, firstP_map h ms]
theorem ends_far (s : Scr) (f : Int) : endsI (farS f s) = (endsI s).map (· + f) := by
  unfold endsI farS
  rw [List.map_map, List.map_map]; rfl
theorem fw_far (s : Scr) (f : Int) (x : Str) : fwS (farS f s) x = fwS s x := by
  have hb : (farS f s).begins.map (·.1) = (s.begins.map (·.1)).map (· + f) := by
    unfold farS
    rw [List.map_map, List.map_map]; rfl
  have hS : (farS f s).steps = s.steps.map (farT f) := rfl
  unfold fwS
  rw [ends_far, hb, hS, firstP_map (p := goes s.steps (endsI s) (cl x)) fun m => goes_far (cl x) m]
  cases hf : firstP (goes s.steps (endsI s) (cl x)) (s.begins.map (·.1)) 0 with
  | none => rfl
  | some b =>
    obtain ⟨_, r, hr, _⟩ := firstP_at _ _ _ hf
    rw [Nat.sub_zero] at hr
    have e1 : ((s.begins.map (·.1)).map (· + f)).getD b 0 = (s.begins.map (·.1)).getD b 0 + f := by
      rw [List.getD_eq_getElem?_getD, List.getD_eq_getElem?_getD, List.getElem?_map, hr]; rfl
    show some (Wy.mk _ _ _) = some (Wy.mk _ _ _)
    rw [e1, way_far, firstP_map (p := fun m => decide (m = (wayGo s.steps (endsI s) (cl x) ((s.begins.map (·.1)).getD b 0)).2)) fun m => decide_eq_decide.mpr ⟨fun h => by omega, fun h => by omega⟩]
theorem word_far (s : Scr) (f : Int) (y : Wy) : wordY (farS f s) y = wordY s y := by
  have go : ∀ (is : List Int) (w : Str), sayGo (farS f s).steps w is = sayGo s.steps w is := by
    intro is
    induction is with
    | nil => intro w; rfl
    | cons i is ih =>
      intro w
      show sayGo (farS f s).steps (w ++ (((farS f s).steps[i.toNat]?).map (·.2.2.1)).getD _) is = sayGo s.steps (w ++ ((s.steps[i.toNat]?).map (·.2.2.1)).getD _) is
      rw [ih, show (farS f s).steps = s.steps.map (farT f) from rfl, List.getElem?_map, Option.map_map]; rfl
  unfold wordY
  rw [go, show (farS f s).begins = s.begins.map (farM f) from rfl, show (farS f s).ends = s.ends.map (farM f) from rfl, List.getElem?_map, List.getElem?_map, Option.map_map, Option.map_map]; rfl
def WyN (K : PySem.W.Frag) (H H' : Hp) (y : Wy) (v : V) : Prop := ∃ a p, v = .ref a ∧ H p = none ∧ SqT K H' a [.int y.b, .ref p, .int y.e] ∧ H' p = some (.lst (y.row.map V.int))
theorem WyN.v {K : PySem.W.Frag} {H H' : Hp} {y : Wy} {v : V} : WyN K H H' y v → WyV K H' y v := fun ⟨a, p, e, _, h, h'⟩ => ⟨a, p, e, h, h'⟩
def spFW (K : PySem.W.Frag) : Sp := fun vs H Q _ => ∃ (v : V) (s : Scr) (pb ps pe : Addr) (x : Str), vs = [v, .str x] ∧ ScV K H s v pb ps pe ∧ s.begins.length ≤ 99 ∧ s.ends.length ≤ 99 ∧ s.steps.length ≤ 99 ∧ x.length ≤ 62 ∧ (∃ f : Int, (∀ t ∈ s.steps, f ≤ t.1 ∧ t.1 < f + 15) ∧ ∀ m ∈ s.ends, f ≤ m.1 ∧ m.1 < f + 15) ∧
  (fwS s x = none → ∀ H', Same H H' → Q .non H') ∧ ∀ y, fwS s x = some y → ∀ wv H', Same H H' → WyN K H H' y wv → Q wv H'
def spLong (K : PySem.W.Frag) : Sp := fun vs H Q _ => ∃ (a : Addr) (ns : List Int), vs = [.ref a] ∧ SqL K H a (ns.map V.int) ∧ ∀ H', Same H H' → Q (.bl true) H'
def spLaw (K : PySem.W.Frag) : Sp := fun vs H Q _ => ∃ (a : Addr) (ns : List Int), vs = [.ref a] ∧ SqL K H a (ns.map V.int) ∧ ns.length ≤ 63 ∧ ∀ H', Q (.bl true) H'

structure Alike (s sh : Scr) : Prop where
  fw : ∀ x, fwS sh x = fwS s x
  wd : ∀ y, wordY sh y = wordY s y
  lb : sh.begins.length ≤ 99
  ls : sh.steps.length ≤ 99
  le : sh.ends.length ≤ 99
  st : Short sh
  rg : ∃ f : Int, (∀ t ∈ sh.steps, f ≤ t.1 ∧ t.1 < f + 15) ∧ ∀ m ∈ sh.ends, f ≤ m.1 ∧ m.1 < f + 15
theorem Alike.self {s : Scr} (ok : OkS false s 95) (st : Short s) (r1 : s.rooms ≤ 14) : Alike s s :=
  ⟨fun _ => rfl, fun _ => rfl, Nat.le_trans ok.lb (by decide), Nat.le_trans ok.ls (by decide), Nat.le_trans ok.le (by decide), st, 0, fun t ht => ⟨(ok.ms t ht).1, by have := (ok.ms t ht).2.1; omega⟩, fun m hm => ⟨(ok.me m hm).1, by have := (ok.me m hm).2.1; omega⟩⟩
theorem Alike.far {s : Scr} (ok : OkS false s 95) (st : Short s) (r1 : s.rooms ≤ 14) (f : Int) : Alike s (farS f s) := by
  refine ⟨fw_far s f, word_far s f, ?_, ?_, ?_, ⟨fun m hm => ?_, fun t ht => ?_, fun m hm => ?_⟩, f, fun t ht => ?_, fun m hm => ?_⟩
  · show (s.begins.map (farM f)).length ≤ 99; rw [List.length_map]; exact Nat.le_trans ok.lb (by decide)
  · show (s.steps.map (farT f)).length ≤ 99; rw [List.length_map]; exact Nat.le_trans ok.ls (by decide)
  · show (s.ends.map (farM f)).length ≤ 99; rw [List.length_map]; exact Nat.le_trans ok.le (by decide)
  · obtain ⟨m', h, rfl⟩ := List.mem_map.mp (show m ∈ s.begins.map (farM f) from hm); exact st.1 m' h
  · obtain ⟨m', h, rfl⟩ := List.mem_map.mp (show t ∈ s.steps.map (farT f) from ht); exact st.2.1 m' h
  · obtain ⟨m', h, rfl⟩ := List.mem_map.mp (show m ∈ s.ends.map (farM f) from hm); exact st.2.2 m' h
  · obtain ⟨m', h, rfl⟩ := List.mem_map.mp (show t ∈ s.steps.map (farT f) from ht)
    have := (ok.ms m' h).1; have := (ok.ms m' h).2.1
    show f ≤ m'.1 + f ∧ m'.1 + f < f + 15; omega
  · obtain ⟨m', h, rfl⟩ := List.mem_map.mp (show m ∈ s.ends.map (farM f) from hm)
    have := (ok.me m' h).1; have := (ok.me m' h).2.1
    show f ≤ m'.1 + f ∧ m'.1 + f < f + 15; omega
theorem short93 {pl : Bool} {s : Scr} {n : Nat} (ok : OkS pl s n) : Short s := ⟨fun m hm => Nat.le_trans (ok.mb m hm).2.2.1 (by decide), fun t ht => ⟨by
  obtain ⟨c, _, e⟩ := (ok.ms t ht).2.2.1
  rw [e]; show 1 ≤ 100; decide, Nat.le_trans (ok.ms t ht).2.2.2.1.1 (by decide)⟩, fun m hm => Nat.le_trans (ok.me m hm).2.2.1 (by decide)⟩

theorem paired_insT {α β : Type} {F : α → β → Prop} {xs : List α} {ys : List β} (n : Nat) {x : α} {y : β} (h : Paired F xs ys) (hx : F x y) : Paired F (xs.take n ++ x :: xs.drop n) (ys.take n ++ y :: ys.drop n) :=
  paired_append (paired_take n h) (.cons hx (paired_drop n h))
def cutT {α : Type} (xs : List α) (n m : Nat) : List α := (xs.drop n).take m
theorem mem_cutT {α : Type} {xs : List α} {n m : Nat} {x : α} (h : x ∈ cutT xs n m) : x ∈ xs := List.mem_of_mem_drop (List.mem_of_mem_take h)
theorem len_cutT {α : Type} (xs : List α) (n m : Nat) : (cutT xs n m).length ≤ xs.length := by
  unfold cutT
  rw [List.length_take, List.length_drop]; omega

theorem once_nodup {α : Type} [DecidableEq α] (xs : List α) : (onceM xs).Nodup := by
  have go : ∀ (xs acc : List α), acc.Nodup → (xs.foldl addM acc).Nodup := by
    intro xs
    induction xs with
    | nil => intro acc h; exact h
    | cons y ys ih =>
      intro acc h
      refine ih _ ?_
      unfold addM
      split
      · exact h
      · rename_i z; exact nodup_snoc h z
  exact go xs [] List.Pairwise.nil

theorem nd_len : ∀ (n : Nat) {f : Int} {R : List Int}, R.Nodup → (∀ y ∈ R, f ≤ y ∧ y < f + n) → R.length ≤ n
  | 0, f, R, _, h => by
    cases R with
    | nil => simp
    | cons y R => have := h y (by simp); omega
  | n + 1, f, R, nd, h => by
    by_cases c : f + n ∈ R
    · have := nd_len n (f := f) (nd.erase (f + n)) fun y hy => by
        obtain ⟨h1, h2⟩ := (List.Nodup.mem_erase_iff nd).mp hy
        have := h y h2
        omega
      rw [List.length_erase_of_mem c] at this
      omega
    · exact Nat.le_succ_of_le (nd_len n (f := f) nd fun y hy => by
        have := h y hy
        have : y ≠ f + n := fun e => c (e ▸ hy)
        omega)
def spEndR (K : PySem.W.Frag) : Sp := fun vs H Q _ => ∃ (v : V) (s : Scr) (pb ps pe : Addr), vs = [v] ∧ ScV K H s v pb ps pe ∧ s.ends.length ≤ 99 ∧ (onceM (endsI s)).length ≤ 60 ∧ ∀ (l : Addr) (H' : Hp) (ns' : List Int), Same H H' → H l = none → ns'.Perm (onceM (endsI s)) → ns'.Pairwise (· ≤ ·) → H' l = some (.lst (ns'.map V.int)) → Q (.ref l) H'
def Rch (S : List Stp) (E : List Int) (H : Hp) (ks : List Nat) (r : Addr) : Prop := ∃ R : List Int, H r = some (.lst (R.map V.int)) ∧ R.length ≤ 15 ∧ ∀ y, y ∈ R ↔ goes S E ks y = true
theorem Rch.mono {S : List Stp} {E : List Int} {H H' : Hp} {ks : List Nat} {r : Addr} (g : Same H H') : Rch S E H ks r → Rch S E H' ks r := fun ⟨R, h, q⟩ => ⟨R, g _ _ h, q⟩
def spLead (K : PySem.W.Frag) : Sp := fun vs H Q _ => ∃ (v : V) (s : Scr) (pb ps pe : Addr) (x : Str), vs = [v, .str x] ∧ ScV K H s v pb ps pe ∧ s.ends.length ≤ 99 ∧ s.steps.length ≤ 99 ∧ x.length ≤ 62 ∧ (∃ f : Int, (∀ t ∈ s.steps, f ≤ t.1 ∧ t.1 < f + 15) ∧ ∀ m ∈ s.ends, f ≤ m.1 ∧ m.1 < f + 15) ∧
  ∀ (l : Addr) (H' : Hp) (rs : List Addr), Same H H' → H l = none → H' l = some (.lst (rs.map V.ref)) → rs.length = x.length + 1 → (∀ i r, rs[i]? = some r → Rch s.steps (endsI s) H' ((cl x).drop i) r) → Q (.ref l) H'
theorem flat_len {α β : Type} {g : α → List β} {n : Nat} (h : ∀ a, (g a).length ≤ n) : ∀ xs : List α, (xs.flatMap g).length ≤ xs.length * n
  | [] => by simp
  | x :: xs => by
    rw [List.flatMap_cons, List.length_append, List.length_cons, Nat.succ_mul]
    have := flat_len h xs
    have := h x
    omega
theorem ahead_len {S : List Stp} {c : Str} {R : List Int} (hS : S.length ≤ 99) (hR : R.length ≤ 15) : (aheadL (mvs S) c R).length ≤ 9999 := by
  have := flat_len (g := onG (mvs S) c) (n := 99) (fun a => by unfold onG; rw [List.length_map]; exact Nat.le_trans (List.length_filter_le _ _) (by unfold mvs; exact Nat.le_trans (once_len _) (by rw [List.length_map]; exact hS))) R
  unfold aheadL
  omega
theorem isq_eq {H : Hp} : ∀ {us : List Nat} {ys : List V}, Paired (isQ H) us ys → ys = us.map fun (i : Nat) => V.int i
  | _, _, .nil => rfl
  | _, _, .cons h t => by rw [isq_eq t, h]; rfl
theorem cut1 {rs : List Addr} (h : 1 ≤ rs.length) : cutV (rs.map V.ref) (some 1) none = (rs.drop 1).map V.ref := by
  show ((rs.map V.ref).drop (HT.sIx (rs.map V.ref).length 0 (some ((1 : Nat) : Int)))).take (HT.sIx (rs.map V.ref).length (rs.map V.ref).length none - HT.sIx (rs.map V.ref).length 0 (some ((1 : Nat) : Int))) = _
  rw [HT.sIx_nat, HT.sIx_none, Nat.min_eq_left (by rw [List.length_map]; exact h), List.take_of_length_le (by rw [List.length_drop]; exact Nat.le_refl _), List.map_drop]
theorem find_alike {α : Type} {p q : α → Bool} : ∀ {xs : List α}, (∀ a ∈ xs, p a = q a) → xs.find? p = xs.find? q
  | [], _ => rfl
  | a :: xs, h => by
    rw [List.find?_cons, List.find?_cons, h a (by simp), find_alike fun b hb => h b (by simp [hb])]
theorem into_nx {S : List Stp} {E : List Int} {ks : List Nat} {r : Int} {c : Nat} {R : List Int} (h : ∀ y, y ∈ R ↔ goes S E ks y = true) :
    ((List.range S.length).filter fun i => decide (pKey S i = [Sum.inl r, Sum.inr ⟨#[c]⟩])).find? (stepIn S R) = nxI S E ks r c := by
  unfold nxI
  rw [List.find?_filter]
  refine find_alike fun i hi => ?_
  have hi : i < S.length := by simpa using hi
  have ht : S[i]? = some S[i] := List.getElem?_eq_getElem hi
  generalize S[i] = t at ht
  unfold okI stepIn pKey goalAt stQ
  rw [ht]
  dsimp only
  have e1 : decide (([Sum.inl t.1, Sum.inr t.2.1] : List Key) = [Sum.inl r, Sum.inr ⟨#[c]⟩]) = (decide (t.1 = r) && decide (t.2.1 = ⟨#[c]⟩)) := by
    rw [Bool.eq_iff_iff]; simp
  have e2 : decide (t.2.2.2 ∈ R) = goes S E ks t.2.2.2 := by
    rw [Bool.eq_iff_iff]; simp [h]
  rw [Bool.eq_iff_iff]
  simp [e1, e2]

section
seal L2.PE L2.PT L2.PW L2.PA L2.PS L2.PSs L2.PC L2.PG L2.PGs L2.PI L2.PO
variable {P : Program} {w : World} {K : PySem.W.Frag} {mg : Str → Option Value} {base : Heap}
theorem sc_part_at : FnScope ["parts", "place"] ["parts", "place"] (defScope s_part_at) := ⟨rfl, rfl, rfl, by decide +kernel, rfl, by decide +kernel, by decide +kernel⟩
theorem ok_part_at (B : Bi mg) {c_NoWay : Addr} (XB : Xb K mg c_NoWay)  {f : Addr} {fd : FuncData} (F : Fun K "part_at" "part_at" s_part_at f fd) : FnOk P w K mg base (CX1 P w) 1 f fd ["parts", "place"] (spPart K c_NoWay) := by
  refine Fun.ok1 F sc_part_at (fun vs H Q E h => ?_) (fun cdv A outer s H vs Q E hr h => ?_)
  · obtain ⟨p, xs, i, rfl, _⟩ := h; rfl
  obtain ⟨p, xs, i, rfl, hS, q, hE⟩ := h
  refine ⟨_, (pss_cons (ps_if (pt_not (pt_chain op_le op_lt pe_int (pv 1) (pe_callB (kLen (K := K)) (by rfl) B.len bt_len (pa_cons (pv 0) pa_nil)))) (pss_one (ps_raise XB.own_NoWay (by rfl) (by rfl) raise_on pe_str)) pss_nil)
      (pss_one (ps_ret (pe_ix (kIx (K := K) rIxL ix_list) (pv 0) (pv 1) (by intro _ _; rfl))))), ?_⟩
  refine ⟨_, rfl, _, _, rfl, rfl, _, rfl, iteDd (fun c1 => ?_) (fun c1 => ?_)⟩
  · refine ⟨_, rfl, p, xs, rfl, .inl hS, _, _, rfl, rfl, _, rfl, iteNd (fun c2 => ⟨rfl, hE fun z => c2 z.2⟩) (fun c2 => ?_)⟩
    obtain ⟨x, h1, h2⟩ := at_some (xs := xs) c1 c2
    exact ⟨_, rfl, _, rfl, p, xs, _, x, rfl, rfl, hS, h1, q x ⟨c1, c2⟩ h2⟩
  · refine ⟨_, rfl, ?_⟩
    exact ⟨rfl, hE fun z => c1 z.1⟩

theorem sc_walked_by : FnScope ["scribe", "way", "begin", "room", "read", "written", "place", "step", "end"] ["scribe", "way"] (defScope s_walked_by) := ⟨rfl, rfl, rfl, by decide +kernel, rfl, by decide +kernel, by decide +kernel⟩
theorem ok_walked_by (B : Bi mg) {c_NoWay : Addr} (XB : Xb K mg c_NoWay) (C_part_at : Cal1 P w K mg base "part_at" ["parts", "place"] 1 (spPart K c_NoWay)) {f : Addr} {fd : FuncData} (F : Fun K "walked_by" "walked_by" s_walked_by f fd) : FnOk P w K mg base (CX1 P w) 2 f fd ["scribe", "way"] (spWalked K c_NoWay) := by
  refine Fun.ok1 F sc_walked_by (fun vs H Q E h => ?_) (fun cdv A outer s H vs Q E hr h => ?_)
  · obtain ⟨v, s, pb, ps, pe, wv, y, rfl, _⟩ := h; rfl
  obtain ⟨v, s, pb, ps, pe, wv, y, rfl, hV, hY, hSh, hrow, q, hE⟩ := h
  refine ⟨_, (pss_cons (ps_set (i := 2) sc_walked_by.nd rfl (Or.inl rfl) (pe_fn1 C_part_at hr (by decide : 1 ≤ 1) (by rfl) pass_on (pa_cons (pe_ix (kIx (K := K) rIxT ix_tup) (pv 0) (pe_globI (by rfl) B.BEGINS) (by intro _ _; rfl)) (pa_cons (pe_ix (kIx (K := K) rIxT ix_tup) (pv 1) pe_int (by intro _ _; rfl)) pa_nil))))
      (pss_cons (ps_set (i := 3) sc_walked_by.nd rfl (Or.inl rfl) (pe_ix (kIx (K := K) rIxT ix_tup) (pv 2) pe_int (by intro _ _; rfl)))
      (pss_cons (ps_set (i := 4) sc_walked_by.nd rfl (Or.inl rfl) (pe_lst pa_nil))
      (pss_cons (ps_set (i := 5) sc_walked_by.nd rfl (Or.inl rfl) (pe_lst (pa_cons (pe_ix (kIx (K := K) rIxT ix_tup) (pv 2) pe_int (by intro _ _; rfl)) pa_nil)))
      (pss_cons (ps_for own_on (by rfl) (kPI (K := K) (fun k => iList k _) (pi_list (pe_ix (kIx (K := K) rIxT ix_tup) (pv 1) pe_int (by intro _ _; rfl)))) (pg_name (i := 6) sc_walked_by.nd rfl (Or.inl rfl)) (pss_cons (ps_set (i := 7) sc_walked_by.nd rfl (Or.inl rfl) (pe_fn1 C_part_at hr (by decide : 1 ≤ 1) (by rfl) pass_on (pa_cons (pe_ix (kIx (K := K) rIxT ix_tup) (pv 0) (pe_globI (by rfl) B.STEPS) (by intro _ _; rfl)) (pa_cons (pv 6) pa_nil))))
      (pss_cons (ps_if (pt_cmpR op_ne (pe_ix (kIx (K := K) rIxT ix_tup) (pv 7) pe_int (by intro _ _; rfl)) (pv 3) (nomark _)) (pss_one (ps_raise XB.own_NoWay (by rfl) (by rfl) raise_on pe_str)) pss_nil)
      (pss_cons (ps_expr (kPE (K := K) (fun k => tBM k _ _ _ _) (pe_bm PySem.F.plainAttrs_list PySem.F.slot_list_append PySem.F.type_list_append mt_append (pv 4) (pa_cons (pe_ix (kIx (K := K) rIxT ix_tup) (pv 7) pe_int (by intro _ _; rfl)) pa_nil))))
      (pss_cons (ps_expr (kPE (K := K) (fun k => tBM k _ _ _ _) (pe_bm PySem.F.plainAttrs_list PySem.F.slot_list_append PySem.F.type_list_append mt_append (pv 5) (pa_cons (pe_ix (kIx (K := K) rIxT ix_tup) (pv 7) pe_int (by intro _ _; rfl)) pa_nil))))
      (pss_one (ps_set (i := 3) sc_walked_by.nd rfl (Or.inl rfl) (pe_ix (kIx (K := K) rIxT ix_tup) (pv 7) pe_int (by intro _ _; rfl)))))))))
      (pss_cons (ps_set (i := 8) sc_walked_by.nd rfl (Or.inl rfl) (pe_fn1 C_part_at hr (by decide : 1 ≤ 1) (by rfl) pass_on (pa_cons (pe_ix (kIx (K := K) rIxT ix_tup) (pv 0) (pe_globI (by rfl) B.ENDS) (by intro _ _; rfl)) (pa_cons (pe_ix (kIx (K := K) rIxT ix_tup) (pv 1) pe_int (by intro _ _; rfl)) pa_nil))))
      (pss_cons (ps_if (pt_cmpR op_ne (pe_ix (kIx (K := K) rIxT ix_tup) (pv 8) pe_int (by intro _ _; rfl)) (pv 3) (nomark _)) (pss_one (ps_raise XB.own_NoWay (by rfl) (by rfl) raise_on pe_str)) pss_nil)
      (pss_cons (ps_expr (kPE (K := K) (fun k => tBM k _ _ _ _) (pe_bm PySem.F.plainAttrs_list PySem.F.slot_list_append PySem.F.type_list_append mt_append (pv 5) (pa_cons (pe_ix (kIx (K := K) rIxT ix_tup) (pv 8) pe_int (by intro _ _; rfl)) pa_nil))))
      (pss_one (ps_ret (pe_tup (pa_cons (kPE (K := K) (fun k => tBM k _ _ _ _) (pe_bm PySem.F.plainAttrs_str PySem.F.slot_str_join PySem.F.type_str_join mt_join pe_str (pa_cons (pv 4) pa_nil))) (pa_cons (kPE (K := K) (fun k => tBM k _ _ _ _) (pe_bm PySem.F.plainAttrs_str PySem.F.slot_str_join PySem.F.type_str_join mt_join pe_str (pa_cons (pv 5) pa_nil))) pa_nil))))))))))))), ?_⟩
  obtain ⟨a, xb, xs, xe, rfl, h1, h2, h3, h4, h5, h6, h7⟩ := hV
  obtain ⟨ya, yp, rfl, y1, y2⟩ := hY
  have lb : s.begins.length = xb.length := h5.length
  have ls : s.steps.length = xs.length := h6.length
  have le : s.ends.length = xe.length := h7.length
  refine ⟨_, rfl, _, _, _, _, rfl, rfl, h1, rfl, _, rfl, _, _, _, _, rfl, rfl, y1, rfl, pb, xb, _, rfl, h2, fun x hin hx => ?_, fun hn => ?_⟩
  rotate_left
  · refine hE ?_ H (Same.refl H)
    unfold walkedM markAt
    rw [if_neg (by rw [lb]; exact hn)]
    rfl
  obtain ⟨m, hm, bm, rfl, hbm⟩ := paired_get h5 hx
  have hmk : markAt s.begins y.b = some m := by unfold markAt; rw [if_pos (by rw [lb]; exact hin), hm]
  have hml : m.2.length ≤ 100 := hSh.1 m (List.mem_of_getElem? hm)
  refine ⟨_, rfl, _, _, _, _, rfl, rfl, hbm, rfl, ?_⟩
  refine ⟨szl (by simp), fun pr hpr => ?_⟩
  have g1 := same_new hpr (.lst [])
  refine ⟨_, rfl, _, _, _, _, rfl, rfl, Same.seqT g1 hbm, rfl, szl (by simp), fun pw hpw => ?_⟩
  have g2 := g1.trans (same_new hpw (.lst [V.str m.2]))
  have npw : pr ≠ pw := ne_of_none upd_same hpw
  have hpw0 : H pw = none := g1.free hpw
  have hpy : ∀ {H' : Hp}, Same H H' → H' yp = some (.lst (y.row.map V.int)) := fun g => g _ _ y2
  refine ⟨_, rfl, _, _, _, _, rfl, rfl, Same.seqT g2 y1, rfl, yp, rfl, ⟨_, SqL.of (hpy g2)⟩, ?_⟩
  refine for_list (xs := y.row.map V.int) (fun i σ H' => i ≤ y.row.length ∧ Same H H' ∧ ∃ r t u ys zs x6 x7, walkM s (m.1, "", m.2) (y.row.take i) = some (r, t, u) ∧ σ = [some (.ref a), some (.ref ya), some (.ref bm), some (.int r), some (.ref pr), some (.ref pw), x6, x7, none] ∧ H' pr = some (.lst (ys.map V.str)) ∧ H' pw = some (.lst (zs.map V.str)) ∧ catS ys = t ∧ catS zs = u ∧ ys.length = i ∧ zs.length = i + 1 ∧ t.length ≤ 100 * i ∧ u.length ≤ 100 * (i + 1))
    ⟨Nat.zero_le _, g2, m.1, "", m.2, [], [m.2], none, none, rfl, rfl, by rw [upd_ne npw]; exact upd_same, upd_same, rfl, catS_one _, rfl, rfl, Nat.zero_le _, by omega⟩ (fun i σ H' _ z => SqL.of (hpy z.2.1)) ?_ ?_
  · rintro i x σ H3 hx3 ⟨hi, g3, r, t, u, ys, zs, x6, x7, hw, rfl, hyr, hzr, et, eu, ly, lz, lt, lu⟩
    rw [List.getElem?_map] at hx3
    obtain ⟨k, hk, rfl⟩ := Option.map_eq_some_iff.mp hx3
    have hil : i < y.row.length := (List.getElem?_eq_some_iff.mp hk).1
    have fail : stepM s (r, t, u) k = none → walkedM s y = none := fun z => by
      have : walkM s (m.1, "", m.2) (y.row.take (i + 1)) = none := by rw [walk_take hk, hw]; exact z
      unfold walkedM
      rw [hmk, Option.bind_some, walk_cut this]; rfl
    refine ⟨_, rfl, _, _, _, _, rfl, rfl, Same.seqT g3 h1, rfl, _, rfl, ps, xs, k, rfl, g3.seq h3, fun x hin3 hx4 => ?_, fun hn => hE (fail (by unfold stepM; rw [if_neg (by rw [ls]; exact hn)])) _ g3⟩
    obtain ⟨st, hst, bs, rfl, hbs⟩ := paired_get h6 hx4
    have hbs3 := (Same.grow g3).seqT hbs
    have hstep : stepM s (r, t, u) k = if st.1 = r then some (st.2.2.2, t ++ st.2.1, u ++ st.2.2.1) else none := by
      unfold stepM; rw [if_pos (by rw [ls]; exact hin3), hst]
    obtain ⟨sl1, sl2⟩ := hSh.2.1 st (List.mem_of_getElem? hst)
    refine ⟨_, rfl, _, _, _, _, rfl, rfl, hbs3, rfl, _, rfl, rfl, _, rfl, iteNd (fun c => ?_) (fun c => ?_)⟩
    · refine ⟨rfl, hE (fail ?_) _ g3⟩
      rw [hstep, if_neg (fun z => c (by rw [z]))]
    injection c with c
    rw [if_pos c] at hstep
    have eb : ys.length < sizeLine := szl' (by omega)
    refine ⟨_, rfl, .inl ⟨rfl, _, SqL.of hyr⟩, _, rfl, _, _, _, _, rfl, rfl, hbs3, rfl, pr, _, _, rfl, rfl, hyr, by rw [List.length_map]; exact eb, ?_⟩
    have gr1 := grow_upd hyr (.lst (ys.map V.str ++ [V.str st.2.1]))
    have hzr1 : upd H3 pr (.lst (ys.map V.str ++ [V.str st.2.1])) pw = some (.lst (zs.map V.str)) := by rw [upd_ne npw.symm]; exact hzr
    refine ⟨_, rfl, .inl ⟨rfl, _, SqL.of hzr1⟩, _, rfl, _, _, _, _, rfl, rfl, gr1.seqT hbs3, rfl, pw, _, _, rfl, rfl, hzr1, by rw [List.length_map]; exact szl' (by omega), ?_⟩
    have gr2 := grow_upd hzr1 (.lst (zs.map V.str ++ [V.str st.2.2.1]))
    refine ⟨_, rfl, _, _, _, _, rfl, rfl, (gr1.trans gr2).seqT hbs3, rfl, ?_⟩
    refine ⟨hil, same_updN (same_updN g3 hpr) hpw0, st.2.2.2, t ++ st.2.1, u ++ st.2.2.1, ys ++ [st.2.1], zs ++ [st.2.2.1], _, _, ?_, rfl, ?_, ?_, ?_, ?_, ?_, ?_, ?_, ?_⟩
    · rw [walk_take hk, hw]; exact hstep
    · rw [upd_ne npw, upd_same, List.map_append]; rfl
    · rw [upd_same, List.map_append]; rfl
    · rw [catS_snoc, et]
    · rw [catS_snoc, eu]
    · rw [List.length_append, ly]; rfl
    · rw [List.length_append, lz]; rfl
    · rw [len_app]; omega
    · rw [len_app]; omega
  rintro σ H3 ⟨_, g3, r, t, u, ys, zs, x6, x7, hw, rfl, hyr, hzr, et, eu, ly, lz, lt, lu⟩
  rw [List.length_map] at hw ly lz lt lu
  rw [List.take_length] at hw
  refine ⟨_, rfl, _, _, _, _, rfl, rfl, Same.seqT g3 h1, rfl, _, rfl, _, _, _, _, rfl, rfl, Same.seqT g3 y1, rfl, pe, xe, _, rfl, g3.seq h4, fun x hin5 hx5 => ?_, fun hn => ?_⟩
  rotate_left
  · refine hE ?_ _ g3
    unfold walkedM
    rw [hmk, Option.bind_some, hw, Option.bind_some]
    unfold markAt
    rw [if_neg (by rw [le]; exact hn)]
    rfl
  obtain ⟨n, hn, bn, rfl, hbn⟩ := paired_get h7 hx5
  have hnk : markAt s.ends y.e = some n := by unfold markAt; rw [if_pos (by rw [le]; exact hin5), hn]
  have hnl : n.2.length ≤ 100 := hSh.2.2 n (List.mem_of_getElem? hn)
  have hbn3 := (Same.grow g3).seqT hbn
  have fin : walkedM s y = if n.1 = r then some (t, u ++ n.2) else none := by
    unfold walkedM
    rw [hmk, Option.bind_some, hw, Option.bind_some, hnk, Option.bind_some]
  refine ⟨_, rfl, _, _, _, _, rfl, rfl, hbn3, rfl, _, rfl, rfl, _, rfl, iteNd (fun c => ?_) (fun c => ?_)⟩
  · refine ⟨rfl, hE ?_ _ g3⟩
    rw [fin, if_neg (fun z => c (by rw [z]))]
  injection c with c
  rw [if_pos c] at fin
  refine ⟨_, rfl, .inl ⟨rfl, _, SqL.of hzr⟩, _, rfl, _, _, _, _, rfl, rfl, hbn3, rfl, pw, _, _, rfl, rfl, hzr, by rw [List.length_map]; exact szl' (by omega), ?_⟩
  have hyr2 : upd H3 pw (.lst (zs.map V.str ++ [V.str n.2])) pr = some (.lst (ys.map V.str)) := by rw [upd_ne npw]; exact hyr
  have hzr2 : upd H3 pw (.lst (zs.map V.str ++ [V.str n.2])) pw = some (.lst ((zs ++ [n.2]).map V.str)) := by rw [upd_same, List.map_append]; rfl
  have s1 : (ys.map (·.length)).sum + ys.length * ("" : Str).length ≤ 16777216 := by
    have := catS_len ys
    rw [et] at this
    have e0 : ("" : Str).length = 0 := rfl
    rw [e0]; omega
  have s2 : ((zs ++ [n.2]).map (·.length)).sum + (zs ++ [n.2]).length * ("" : Str).length ≤ 16777216 := by
    have := catS_len (zs ++ [n.2])
    rw [catS_snoc, eu, len_app] at this
    have e0 : ("" : Str).length = 0 := rfl
    rw [e0]; omega
  refine ⟨rfl, _, rfl, _, pr, ys, rfl, rfl, SqL.of hyr2, s1, rfl, _, rfl, _, pw, zs ++ [n.2], rfl, rfl, SqL.of hzr2, s2, (by show 2 ≤ sizeLine; decide), fun p hp => ?_⟩
  refine q t (u ++ n.2) fin p _ ((same_updN g3 hpw0).trans (same_new hp _)) ?_
  rw [upd_same, join_cat, join_cat, et, catS_snoc, eu]

theorem sc_each_once : FnScope ["parts", "found", "part"] ["parts"] (defScope s_each_once) := ⟨rfl, rfl, rfl, by decide +kernel, rfl, by decide +kernel, by decide +kernel⟩
theorem ok_each_once (B : Bi mg) {c_NoWay : Addr} (XB : Xb K mg c_NoWay)  {f : Addr} {fd : FuncData} (F : Fun K "each_once" "each_once" s_each_once f fd) : FnOk P w K mg base CX0 1 f fd ["parts"] (spOnce K) := by
  refine F.ok sc_each_once (fun vs H Q E h => ?_) (fun cdv A outer s H vs Q E hr h => ?_)
  · obtain ⟨p, rfl, _⟩ := h; rfl
  obtain ⟨p, rfl, h⟩ := h
  refine ⟨_, (pss_cons (ps_set (i := 1) sc_each_once.nd rfl (Or.inl rfl) (pe_or pe_dnewK pe_dnewT))
      (pss_cons (ps_for PassesOwn.never (by rfl) (kPI (K := K) (fun k => iList k _) (pi_list (pv 0))) (pg_name (i := 2) sc_each_once.nd rfl (Or.inl rfl)) (pss_one (ps_dput (hu_of hr) (pv 1) (pv 2) pe_bl rfl)))
      (pss_one (ps_ret (pe_callTy (call_list_d (by rfl)) (by rfl) B.list bt_list (pa_cons (pv 1) pa_nil)))))), ?_⟩
  rcases h with ⟨ns, hS, hl, q⟩ | ⟨ys, ks, hS, hP, hl, q⟩
  · refine .inl fun d hd => ?_
    have g0 := same_new hd (.dK [])
    refine ⟨_, rfl, p, rfl, ⟨_, g0.seq hS⟩, ?_⟩
    refine for_list (xs := ns.map V.int) (fun i σ H' => Same H H' ∧ i ≤ ns.length ∧ (∃ x, σ = [some (.ref p), some (.ref d), x]) ∧ ∃ kvs : List (Key × V), H' d = some (.dK kvs) ∧ kvs.map (·.1) = (onceM (ns.take i)).map Sum.inl)
      ⟨g0, Nat.zero_le _, ⟨_, rfl⟩, [], upd_same, rfl⟩ (fun i σ H' _ z => z.1.seq hS) ?_ ?_
    · rintro i x σ H1 hx ⟨g1, hi, ⟨x2, rfl⟩, kvs, hkd, hkk⟩
      rw [List.getElem?_map] at hx
      obtain ⟨n, hn, rfl⟩ := Option.map_eq_some_iff.mp hx
      have hil : i < ns.length := (List.getElem?_eq_some_iff.mp hn).1
      have hkl : kvs.length ≤ 999 := by
        have e1 := congrArg List.length hkk
        rw [List.length_map, List.length_map] at e1
        have := once_len (ns.take i)
        rw [List.length_take] at this; omega
      refine ⟨_, rfl, _, rfl, d, _, rfl, DPut.k (k := Sum.inl n) (v := .bl true) hkd (szl' (by omega)), ?_⟩
      refine ⟨same_updN g1 hd, hil, ⟨_, rfl⟩, _, upd_same, ?_⟩
      rw [put_keys, hkk, take_get hn, once_snoc, add_map (fun a b z => by injection z)]
    rintro σ H1 ⟨g1, _, ⟨x2, rfl⟩, kvs, hkd, hkk⟩
    rw [List.length_map, List.take_length] at hkk
    refine ⟨_, rfl, d, rfl, .inl ⟨kvs, hkd, fun l hl => ?_⟩⟩
    refine q l _ (g1.trans (same_new hl _)) (g1.free hl) ?_
    rw [upd_same]
    have e : (kvs.map fun kv => kV kv.1) = (onceM ns).map V.int := by
      have e1 : (kvs.map fun kv => kV kv.1) = (kvs.map (·.1)).map kV := by rw [List.map_map]; rfl
      rw [e1, hkk, List.map_map]; rfl
    rw [e]
  · refine .inr fun d hd => ?_
    have g0 := same_new hd (.dT [])
    have hyl : ks.length = ys.length := hP.length
    refine ⟨_, rfl, p, rfl, ⟨_, g0.seq hS⟩, ?_⟩
    refine for_list (xs := ys) (fun i σ H' => Same H H' ∧ i ≤ ys.length ∧ (∃ x, σ = [some (.ref p), some (.ref d), x]) ∧ ∃ kvs : List (List Key × V), H' d = some (.dT kvs) ∧ kvs.map (·.1) = onceM (ks.take i))
      ⟨g0, Nat.zero_le _, ⟨_, rfl⟩, [], upd_same, rfl⟩ (fun i σ H' _ z => z.1.seq hS) ?_ ?_
    · rintro i x σ H1 hx ⟨g1, hi, ⟨x2, rfl⟩, kvs, hkd, hkk⟩
      obtain ⟨k, hk, b, rfl, hb⟩ := paired_get hP hx
      have hil : i < ys.length := (List.getElem?_eq_some_iff.mp hx).1
      have hkl : kvs.length ≤ 999 := by
        have e1 := congrArg List.length hkk
        rw [List.length_map] at e1
        have := once_len (ks.take i)
        rw [List.length_take] at this; omega
      refine ⟨_, rfl, _, rfl, d, _, rfl, DPut.t (v := .bl true) hkd (g1 _ _ hb) (szl' (by omega)), ?_⟩
      refine ⟨same_updN g1 hd, hil, ⟨_, rfl⟩, _, upd_same, ?_⟩
      rw [put_keys, hkk, take_get hk, once_snoc]
    rintro σ H1 ⟨g1, _, ⟨x2, rfl⟩, kvs, hkd, hkk⟩
    rw [← hyl, List.take_length] at hkk
    refine ⟨_, rfl, d, rfl, .inr ⟨kvs, hkd, fun bs l hb hl => ?_⟩⟩
    have gl := same_new hl (.lst (bs.map V.ref))
    have hb2 := paired_keys (F := fun (k : List Key) (b : Addr) => H1 b = some (.tup (k.map kV))) hb
    rw [hkk] at hb2
    exact q l _ bs (g1.trans gl) (g1.free hl) upd_same (paired_mono (fun _ _ z => gl _ _ z) hb2)

theorem sc_starts_by_goal : FnScope ["scribe", "found", "start", "sign", "goal"] ["scribe"] (defScope s_starts_by_goal) := ⟨rfl, rfl, rfl, by decide +kernel, rfl, by decide +kernel, by decide +kernel⟩
theorem ok_starts_by_goal (B : Bi mg) {c_NoWay : Addr} (XB : Xb K mg c_NoWay) (C_each_once : Cal P w K mg base "each_once" ["parts"] 1 (spOnce K)) {f : Addr} {fd : FuncData} (F : Fun K "starts_by_goal" "starts_by_goal" s_starts_by_goal f fd) : FnOk P w K mg base CX0 2 f fd ["scribe"] (spStarts K) := by
  refine F.ok sc_starts_by_goal (fun vs H Q E h => ?_) (fun cdv A outer s H vs Q E hr h => ?_)
  · obtain ⟨v, s, pb, ps, pe, rfl, _⟩ := h; rfl
  obtain ⟨v, s, pb, ps, pe, rfl, hV, lT, q⟩ := h
  refine ⟨_, (pss_cons (ps_set (i := 1) sc_starts_by_goal.nd rfl (Or.inl rfl) pe_dnewT)
      (pss_cons (ps_for PassesOwn.never (by rfl) (kPI (K := K) (fun k => iList k _) (pi_list (pe_fn C_each_once hr (by decide : 1 ≤ 1) (by rfl) (pa_cons (pe_comp rfl (blk_mk (N' := ["step"]) (js := [none]) rfl (by decide +kernel) rfl (by decide +kernel) rfl rfl) (kPI (K := K) (fun k => iList k _) (pi_list (pe_ix (kIx (K := K) rIxT ix_tup) (pv 0) (pe_globI (by rfl) B.STEPS) (by intro _ _; rfl)))) (fun _ _ _ _ _ => (pg_name (i := 0) (show List.Nodup (["step"] : List Str) by decide +kernel) rfl (Or.inl rfl))) (fun _ _ _ _ _ => pf_nil) (fun _ _ _ _ _ => (pe_tup (pa_cons (pe_ix (kIx (K := K) rIxT ix_tup) (pv 0) pe_int (by intro _ _; rfl)) (pa_cons (pe_ix (kIx (K := K) rIxT ix_tup) (pv 0) pe_int (by intro _ _; rfl)) (pa_cons (pe_ix (kIx (K := K) rIxT ix_tup) (pv 0) pe_int (by intro _ _; rfl)) pa_nil)))))) pa_nil)))) (kPG (K := K) (fun k => gTup k 3 _) (pg_tup (n := 3) (by rfl) (pgs_cons (pg_name (i := 2) sc_starts_by_goal.nd rfl (Or.inl rfl)) (pgs_cons (pg_name (i := 3) sc_starts_by_goal.nd rfl (Or.inl rfl)) (pgs_cons (pg_name (i := 4) sc_starts_by_goal.nd rfl (Or.inl rfl)) pgs_nil))))) (pss_one (ps_expr (kPE (K := K) (fun k => tBM k _ _ _ _) (pe_bm PySem.F.plainAttrs_list PySem.F.slot_list_append PySem.F.type_list_append mt_append (kPE (K := K) (fun k => tBM k _ _ _ _) (pe_bm PySem.F.plainAttrs_dict PySem.F.slot_dict_setdefault PySem.F.type_dict_setdefault (mt_setdefault hr) (pv 1) (pa_cons (pe_tup (pa_cons (pv 4) (pa_cons (pv 3) pa_nil))) (pa_cons (pe_lst pa_nil) pa_nil)))) (pa_cons (pv 2) pa_nil))))))
      (pss_one (ps_ret (pv 1))))), ?_⟩
  obtain ⟨a, xb, xo, xe, rfl, h1, h2, o1, h4, h5, o2, h7⟩ := hV
  generalize s.steps = T at o2 lT q
  have lxo : T.length = xo.length := o2.length
  refine fun d hd => ?_
  have gd := same_new hd (.dT [])
  have ed := upd_same (H := H) (a := d) (o := .dT [])
  have o2d := paired_mono (fun _ _ => StV.mono (Same.grow gd)) o2
  generalize upd H d (.dT []) = Hd at gd ed o2d ⊢
  refine ⟨_, rfl, a, _, _, _, rfl, rfl, Same.seqT gd h1, rfl, ps, rfl, ⟨xo, gd.seq o1⟩, ?_⟩
  refine comp_list (xs := xo) (fun i ys τ H' => Same Hd H' ∧ (∃ x, τ = [x]) ∧ i ≤ xo.length ∧ Paired (KyR H') (((T.take i).map mvOf).map k3) ys) ⟨Same.refl _, ⟨_, rfl⟩, Nat.zero_le _, .nil⟩ (fun i ys τ H' z => z.1.seq (gd.seq o1)) ?_ ?_
  · rintro i x ys τ H1 hx ⟨g1, ⟨x0, rfl⟩, hi, hP⟩
    obtain ⟨t, ht, b, rfl, hb⟩ := paired_get o2d hx
    have hil : i < xo.length := (List.getElem?_eq_some_iff.mp hx).1
    have hb1 := (Same.grow g1).seqT hb
    have hyl : ys.length ≤ 99 := by rw [← hP.length, List.length_map, List.length_map, List.length_take]; omega
    refine ⟨_, rfl, _, _, _, _, rfl, rfl, hb1, rfl, _, rfl, _, _, _, _, rfl, rfl, hb1, rfl, _, rfl, _, _, _, _, rfl, rfl, hb1, rfl, (by show 3 ≤ sizeLine; decide), fun p hp => ⟨szl' (by omega), g1.trans (same_new hp _), ⟨_, rfl⟩, hil, ?_⟩⟩
    rw [take_get ht, List.map_append, List.map_append]
    exact paired_append (paired_mono (fun _ _ => KyR.mono (same_new hp _)) hP) (.cons ⟨p, rfl, upd_same⟩ .nil)
  rintro ys τ H1 ⟨g1, _, _, hP⟩ pl hpl
  rw [← lxo, List.take_length] at hP
  have gl := same_new hpl (.lst ys)
  have el := upd_same (H := H1) (a := pl) (o := .lst ys)
  have hP := paired_mono (fun _ _ => KyR.mono gl) hP
  have g1 := g1.trans gl
  generalize upd H1 pl (.lst ys) = H2 at el hP g1 ⊢
  refine ⟨pl, rfl, .inr ⟨ys, _, SqL.of el, hP, by rw [List.length_map, List.length_map]; omega, fun lm H3 bs g3 hlm elm hB => ?_⟩⟩
  rw [once_map k3_inj] at hB
  have hBl : (mvs T).length = bs.length := by have := hB.length; rw [List.length_map] at this; exact this
  have hml : (mvs T).length ≤ 99 := by have := once_len (T.map mvOf); rw [List.length_map] at this; exact Nat.le_trans this lT
  have g13 := g1.trans g3
  have ed3 := g13 _ _ ed
  refine ⟨lm, rfl, ⟨_, SqL.of elm⟩, ?_⟩
  have hlmd : lm ≠ d := fun z => by rw [z, ed3] at elm; cases elm
  refine for_list (xs := bs.map V.ref) (fun i σ H' => Same H H' ∧ i ≤ bs.length ∧ (∃ x2 x3 x4, σ = [some (.ref a), some (.ref d), x2, x3, x4]) ∧ H' lm = some (.lst (bs.map V.ref)) ∧ GT H3 H' ∧ ∃ kvs : List (List Key × V), H' d = some (.dT kvs) ∧ Bk InB gKey H H' d ((mvs T).take i) kvs ∧ ∀ k, valV kvs k ≠ some (.ref lm))
    ⟨gd.trans g13, Nat.zero_le _, ⟨_, _, _, rfl⟩, elm, GT.of (Same.refl _), [], ed3, Bk.nil, fun k z => by cases z⟩ (fun i σ H' _ z => SqL.of z.2.2.2.1) ?_ ?_
  · rintro i x σ H5 hx ⟨g5, hi, ⟨x2, x3, x4, rfl⟩, elm5, gt5, kvs, hkd, bk, hlk⟩
    rw [List.getElem?_map] at hx
    obtain ⟨b, hb, rfl⟩ := Option.map_eq_some_iff.mp hx
    have hil : i < bs.length := (List.getElem?_eq_some_iff.mp hb).1
    obtain ⟨k, hk, ebk⟩ := paired_get hB hb
    rw [List.getElem?_map] at hk
    obtain ⟨u, hu, rfl⟩ := Option.map_eq_some_iff.mp hk
    replace hu : (mvs T)[i]? = some u := hu
    have hb1 : SqT K H5 b [V.int u.1, V.str u.2.1, V.int u.2.2] := gt5.seqT (SqT.of ebk)
    have hkl : kvs.length ≤ 999 := by have := bk.len; rw [List.length_take] at this; omega
    refine ⟨b, _, rfl, hb1, rfl, _, _, rfl, _, _, rfl, _, _, rfl, rfl, ?_⟩
    refine ⟨_, rfl, .inr (.inr (.inl ⟨rfl, .inr ⟨kvs, hkd⟩⟩)), ?_⟩
    refine ⟨_, rfl, _, rfl, (by show 2 ≤ sizeLine; decide), fun p hp => ?_⟩
    have gp := same_new hp (.tup [V.int u.2.2, V.str u.2.1])
    have ep : upd H5 p (.tup [V.int u.2.2, V.str u.2.1]) p = some (.tup ((gKey u).map kV)) := upd_same
    refine ⟨szl (by simp), fun l hl => ?_⟩
    have gl := same_new hl (.lst [])
    have gpl := gp.trans gl
    have hk2 := gpl _ _ hkd
    have bk2 := bk.mono inb_gt gpl
    have g2 := g5.trans gpl
    have el : upd (upd H5 p (.tup [V.int u.2.2, V.str u.2.1])) l (.lst []) l = some (.lst []) := upd_same
    have hl0 : H l = none := (g5.trans gp).free hl
    have hln : ∀ k, valV kvs k ≠ some (.ref l) := fun k hk => by
      obtain ⟨l', ys, e, _, _, h3', _⟩ := bk.there k _ hk
      injection e with e
      subst e
      rw [gp _ _ h3'] at hl; cases hl
    have hld : l ≠ d := (ne_of_none (gp _ _ hkd) hl).symm
    have hllm : lm ≠ l := ne_of_none (gp _ _ elm5) hl
    have elm2 := gpl _ _ elm5
    have gt2 := gt5.trans (GT.of gpl)
    have ep2 := gl _ _ ep
    generalize upd (upd H5 p (.tup [V.int u.2.2, V.str u.2.1])) l (.lst []) = H6 at hk2 bk2 g2 el elm2 gt2 ep2 ⊢
    refine ⟨d, .ref p, .ref l, rfl, rfl, .inr ⟨kvs, gKey u, p, hk2, rfl, ep2, szl' (by omega), fun r hr2 => ?_, fun hn => ?_⟩⟩
    · obtain ⟨l2, ys, rfl, j1, j2, j3, j4, j5⟩ := bk2.there _ _ hr2
      have hyl : ys.length ≤ 999 := by
        rw [← j4.length]
        have := List.length_filter_le (fun t' => decide (gKey t' = gKey u)) ((mvs T).take i)
        rw [List.length_take] at this; omega
      have hl2m : lm ≠ l2 := fun z => hlk _ (z ▸ hr2)
      refine ⟨.inl ⟨rfl, _, SqL.of j3⟩, _, rfl, l2, ys, _, rfl, rfl, j3, szl' (by omega), ?_⟩
      refine ⟨same_updN g2 j1, hil, ⟨_, _, _, rfl⟩, (upd_ne hl2m).trans elm2, gt2.trans (gt_lst j3 _), kvs, by rw [upd_ne j2.symm]; exact hk2, ?_, hlk⟩
      rw [take_get hu]
      exact bk2.put inb_gt hr2 j3 rfl
    · have e3 : upd H6 d (.dT (putK kvs (gKey u) (.ref l))) l = some (.lst []) := by rw [upd_ne hld]; exact el
      refine ⟨.inl ⟨rfl, _, SqL.of e3⟩, _, rfl, l, [], _, rfl, rfl, e3, szl' (by simp), ?_⟩
      refine ⟨same_updN (same_updN g2 hd) hl0, hil, ⟨_, _, _, rfl⟩, by rw [upd_ne hllm, upd_ne hlmd]; exact elm2, gt2.trans ((gt_upd hk2 (fun _ z => nomatch z) (fun _ _ z => nomatch z) _).trans (gt_lst e3 _)), putK kvs (gKey u) (.ref l), by rw [upd_ne hld.symm]; exact upd_same, ?_, fun k hk => ?_⟩
      · rw [take_get hu]
        exact bk2.new inb_gt hn hl0 hld hk2 (fun _ z => nomatch z) (fun _ _ z => nomatch z) hln el rfl
      · rw [valV_put] at hk
        by_cases z : k = gKey u
        · rw [if_pos z] at hk; injection hk with hk; injection hk with hk; exact hllm hk.symm
        · rw [if_neg z] at hk; exact hlk k hk
  rintro σ H5 ⟨g5, _, ⟨x2, x3, x4, rfl⟩, _, _, kvs, hkd, bk, _⟩
  rw [List.length_map, ← hBl, List.take_length] at bk
  exact ⟨_, rfl, q _ _ g5 ⟨d, kvs, rfl, hd, hkd, bk⟩⟩

theorem sc_rooms_ahead : FnScope ["rooms", "sign", "starts", "found", "room", "start"] ["rooms", "sign", "starts"] (defScope s_rooms_ahead) := ⟨rfl, rfl, rfl, by decide +kernel, rfl, by decide +kernel, by decide +kernel⟩
theorem ok_rooms_ahead (B : Bi mg) {c_NoWay : Addr} (XB : Xb K mg c_NoWay)  {f : Addr} {fd : FuncData} (F : Fun K "rooms_ahead" "rooms_ahead" s_rooms_ahead f fd) : FnOk P w K mg base CX0 1 f fd ["rooms", "sign", "starts"] (spAhead K) := by
  refine F.ok sc_rooms_ahead (fun vs H Q E h => ?_) (fun cdv A outer s H vs Q E hr h => ?_)
  · obtain ⟨r, R, c, v, ms, H0, rfl, _⟩ := h; rfl
  obtain ⟨r, R, c, v, ms, H0, rfl, hR, hl, hml, hol, hD, q⟩ := h
  refine ⟨_, (pss_cons (ps_set (i := 3) sc_rooms_ahead.nd rfl (Or.inl rfl) pe_dnewK)
      (pss_cons (ps_for PassesOwn.never (by rfl) (kPI (K := K) (fun k => iList k _) (pi_list (pv 0))) (pg_name (i := 4) sc_rooms_ahead.nd rfl (Or.inl rfl)) (pss_one (ps_for PassesOwn.never (by rfl) (kPI (K := K) (fun k => iList k _) (pi_list (kPE (K := K) (fun k => tBM k _ _ _ _) (pe_bm PySem.F.plainAttrs_dict PySem.F.slot_dict_get PySem.F.type_dict_get (mt_get2 hr) (pv 2) (pa_cons (pe_tup (pa_cons (pv 4) (pa_cons (pv 1) pa_nil))) (pa_cons (pe_lst pa_nil) pa_nil)))))) (pg_name (i := 5) sc_rooms_ahead.nd rfl (Or.inl rfl)) (pss_one (ps_dput (hu_of hr) (pv 3) (pv 5) pe_bl rfl)))))
      (pss_one (ps_ret (pe_callB (call_sorted_n (by rfl)) (by rfl) B.sorted bt_sorted (pa_cons (pv 3) pa_nil)))))), ?_⟩
  refine fun d hd => ?_
  have g0 := same_new hd (.dK [])
  refine ⟨_, rfl, r, rfl, ⟨_, g0.seq hR⟩, ?_⟩
  refine for_list (xs := R.map V.int) (fun i σ H' => Same H H' ∧ i ≤ R.length ∧ (∃ x4 x5, σ = [some (.ref r), some (.str c), some v, some (.ref d), x4, x5]) ∧ ∃ kvs : List (Key × V), H' d = some (.dK kvs) ∧ kvs.map (·.1) = (onceM ((R.take i).flatMap (onG ms c))).map Sum.inl)
    ⟨g0, Nat.zero_le _, ⟨_, _, rfl⟩, [], upd_same, rfl⟩ (fun i σ H' _ z => z.1.seq hR) ?_ ?_
  · rintro i x σ H1 hx ⟨g1, hi, ⟨x4, x5, rfl⟩, kvs, hkd, hkk⟩
    rw [List.getElem?_map] at hx
    obtain ⟨g, hg, rfl⟩ := Option.map_eq_some_iff.mp hx
    have hil : i < R.length := (List.getElem?_eq_some_iff.mp hg).1
    refine ⟨_, rfl, (hD.mono g1).ty, _, rfl, _, rfl, (by show 2 ≤ sizeLine; decide), fun p hp => ?_⟩
    have gp := same_new hp (.tup [V.int g, V.str c])
    refine ⟨szl (by simp), fun l hl => ?_⟩
    have gl := same_new hl (.lst [])
    have g2 := gp.trans gl
    have ep := gl _ _ (upd_same (H := H1) (a := p) (o := .tup [V.int g, V.str c]))
    have el : upd (upd H1 p (.tup [V.int g, V.str c])) l (.lst []) l = some (.lst []) := upd_same
    generalize upd (upd H1 p (.tup [V.int g, V.str c])) l (.lst []) = H2 at g2 ep el ⊢
    obtain ⟨sd, o, la, rfl, hget, hgd, hla⟩ := ((hD.mono g1).mono g2).get2 ep el
    refine ⟨sd, _, _, o, rfl, rfl, hget, ?_⟩
    rw [hgd]
    have hk2 := g2 _ _ hkd
    refine ⟨la, rfl, ⟨_, SqL.of hla⟩, ?_⟩
    have hle : la ≠ d := fun e => by rw [e, hk2] at hla; cases hla
    refine for_list (xs := (onG ms c g).map V.int) (fun j σ H' => Same H H' ∧ j ≤ (onG ms c g).length ∧ (∃ x5, σ = [some (.ref r), some (.str c), some (.ref sd), some (.ref d), some (.int g), x5]) ∧ H' la = some (.lst ((onG ms c g).map V.int)) ∧ ∃ kvs : List (Key × V), H' d = some (.dK kvs) ∧ kvs.map (·.1) = (onceM ((R.take i).flatMap (onG ms c) ++ (onG ms c g).take j)).map Sum.inl)
      ⟨g1.trans g2, Nat.zero_le _, ⟨_, rfl⟩, hla, kvs, hk2, by rw [List.take_zero, List.append_nil]; exact hkk⟩ (fun j σ H' _ z => SqL.of z.2.2.2.1) ?_ ?_
    · rintro j y σ H3 hy ⟨g3, hj, ⟨x5, rfl⟩, hla3, kvs3, hk3, hkk3⟩
      rw [List.getElem?_map] at hy
      obtain ⟨t, ht, rfl⟩ := Option.map_eq_some_iff.mp hy
      have hjl : j < (onG ms c g).length := (List.getElem?_eq_some_iff.mp ht).1
      have hkl : kvs3.length ≤ 9999 := by
        have e1 := congrArg List.length hkk3
        rw [List.length_map, List.length_map] at e1
        have e2 := once_len ((R.take i).flatMap (onG ms c) ++ (onG ms c g).take j)
        have e3 : ((R.take i).flatMap (onG ms c) ++ (onG ms c g).take j).length ≤ (aheadL ms c R).length := by
          unfold aheadL
          conv => rhs; rw [← List.take_append_drop (i + 1) R, List.flatMap_append, flat_take _ hg]
          simp only [List.length_append, List.length_take]
          omega
        omega
      refine ⟨_, rfl, _, rfl, d, _, rfl, DPut.k (k := Sum.inl t) (v := .bl true) hk3 (szl' (by omega)), ?_⟩
      refine ⟨same_updN g3 hd, hjl, ⟨_, rfl⟩, (upd_ne hle).trans hla3, _, upd_same, ?_⟩
      rw [put_keys, hkk3, take_get ht, ← List.append_assoc, once_snoc, add_map (fun a b z => by injection z)]
    rintro σ H3 ⟨g3, _, ⟨x5, rfl⟩, hla3, kvs3, hk3, hkk3⟩
    refine ⟨g3, hil, ⟨_, _, rfl⟩, kvs3, hk3, ?_⟩
    rw [List.length_map, List.take_length] at hkk3
    rw [flat_take _ hg]; exact hkk3
  rintro σ H1 ⟨g1, _, ⟨x4, x5, rfl⟩, kvs, hkd, hkk⟩
  rw [List.length_map, List.take_length] at hkk
  refine ⟨_, rfl, d, kvs, onceM (aheadL ms c R), rfl, hkd, by omega, ?_, fun l ns' h1 h2 hl => ?_⟩
  · have e1 : (kvs.map fun kv => kV kv.1) = (kvs.map (·.1)).map kV := by rw [List.map_map]; rfl
    rw [e1, hkk, List.map_map]; rfl
  exact q l _ ns' (g1.trans (same_new hl _)) (g1.free hl) h1 h2 upd_same

theorem sc_rooms_with_ends : FnScope ["scribe"] ["scribe"] (defScope s_rooms_with_ends) := ⟨rfl, rfl, rfl, by decide +kernel, rfl, by decide +kernel, by decide +kernel⟩
theorem ok_rooms_with_ends (B : Bi mg) {c_NoWay : Addr} (XB : Xb K mg c_NoWay)  {f : Addr} {fd : FuncData} (F : Fun K "rooms_with_ends" "rooms_with_ends" s_rooms_with_ends f fd) : FnOk P w K mg base CX0 1 f fd ["scribe"] (spEndR K) := by
  refine F.ok sc_rooms_with_ends (fun vs H Q E h => ?_) (fun cdv A outer s H vs Q E hr h => ?_)
  · obtain ⟨v, s, pb, ps, pe, rfl, _⟩ := h; rfl
  obtain ⟨v, s, pb, ps, pe, rfl, hV, hel, hol, q⟩ := h
  refine ⟨_, (pss_one (ps_ret (pe_callB (call_sorted_z (by rfl)) (by rfl) B.sorted bt_sorted (pa_cons (pe_callTy (call_setZ (by rfl)) (by rfl) B.set bt_set (pa_cons (pe_comp rfl (blk_mk (N' := ["room", "word"]) (js := [none, none]) rfl (by decide +kernel) rfl (by decide +kernel) rfl rfl) (kPI (K := K) (fun k => iList k _) (pi_list (pe_ix (kIx (K := K) rIxT ix_tup) (pv 0) (pe_globI (by rfl) B.ENDS) (by intro _ _; rfl)))) (fun _ _ _ _ _ => (kPG (K := K) (fun k => gTup k 2 _) (pg_tup (n := 2) (by rfl) (pgs_cons (pg_name (i := 0) (show List.Nodup (["room", "word"] : List Str) by decide +kernel) rfl (Or.inl rfl)) (pgs_cons (pg_name (i := 1) (show List.Nodup (["room", "word"] : List Str) by decide +kernel) rfl (Or.inl rfl)) pgs_nil))))) (fun _ _ _ _ _ => pf_nil) (fun _ _ _ _ _ => (pv 0))) pa_nil)) pa_nil)))), ?_⟩
  obtain ⟨a, xb, xs, xe, rfl, h1, h2, h3, h4, h5, h6, h7⟩ := id hV
  have lxe : s.ends.length = xe.length := h7.length
  refine ⟨_, rfl, a, _, _, _, rfl, rfl, h1, rfl, pe, rfl, ⟨xe, h4⟩, ?_⟩
  refine comp_list (xs := xe) (fun n ys τ H' => H = H' ∧ (∃ y z, τ = [y, z]) ∧ n ≤ xe.length ∧ ys = ((s.ends.take n).map (·.1)).map V.int) ⟨rfl, ⟨_, _, rfl⟩, Nat.zero_le _, rfl⟩ (fun n ys τ H' z => z.1 ▸ h4) ?_ ?_
  · rintro n y ys τ _ hy ⟨rfl, ⟨y0, z0, rfl⟩, hn, rfl⟩
    obtain ⟨m2, hm2, b2, rfl, hb2⟩ := paired_get h7 hy
    have hnl : n < xe.length := (List.getElem?_eq_some_iff.mp hy).1
    refine ⟨b2, _, rfl, hb2, rfl, _, _, rfl, _, _, rfl, rfl, _, rfl, szl' (by rw [List.length_map, List.length_map, List.length_take]; omega), rfl, ⟨_, _, rfl⟩, hnl, ?_⟩
    rw [take_get hm2, List.map_append, List.map_append]; rfl
  rintro ys τ _ ⟨rfl, _, _, rfl⟩ q4 hq4
  rw [← lxe, List.take_length]
  have g4 := same_new hq4 (.lst ((endsI s).map V.int))
  have e4 := upd_same (H := H) (a := q4) (o := .lst ((endsI s).map V.int))
  refine ⟨q4, endsI s, rfl, SqL.of e4, by unfold endsI; rw [List.length_map]; omega, fun qz hqz => ?_⟩
  have gz := same_new hqz (SetZ w qz (onceZ (endsI s)))
  have hol2 : (onceZ (endsI s)).length ≤ 60 := hol
  exact ⟨qz, onceZ (endsI s), rfl, upd_same, by omega, fun l ns' hp hs hl => q l _ ns' ((g4.trans gz).trans (same_new hl _)) ((g4.trans gz).free hl) hp hs upd_same⟩

theorem sc_rooms_that_lead_on : FnScope ["scribe", "text", "starts", "rooms", "found", "sign"] ["scribe", "text"] (defScope s_rooms_that_lead_on) := ⟨rfl, rfl, rfl, by decide +kernel, rfl, by decide +kernel, by decide +kernel⟩
theorem ok_rooms_that_lead_on (B : Bi mg) {c_NoWay : Addr} (XB : Xb K mg c_NoWay) (C_starts_by_goal : Cal P w K mg base "starts_by_goal" ["scribe"] 2 (spStarts K)) (C_rooms_with_ends : Cal P w K mg base "rooms_with_ends" ["scribe"] 1 (spEndR K)) (C_rooms_ahead : Cal P w K mg base "rooms_ahead" ["rooms", "sign", "starts"] 1 (spAhead K)) {f : Addr} {fd : FuncData} (F : Fun K "rooms_that_lead_on" "rooms_that_lead_on" s_rooms_that_lead_on f fd) : FnOk P w K mg base CX0 3 f fd ["scribe", "text"] (spLead K) := by
  refine F.ok sc_rooms_that_lead_on (fun vs H Q E h => ?_) (fun cdv A outer s H vs Q E hr h => ?_)
  · obtain ⟨v, s, pb, ps, pe, x, rfl, _⟩ := h; rfl
  obtain ⟨v, s, pb, ps, pe, x, rfl, hV, hel, hsl, hxl, ⟨f, hf1, hf2⟩, q⟩ := h
  refine ⟨_, (pss_cons (ps_set (i := 2) sc_rooms_that_lead_on.nd rfl (Or.inl rfl) (pe_fn C_starts_by_goal hr (by decide : 2 ≤ 2) (by rfl) (pa_cons (pv 0) pa_nil)))
      (pss_cons (ps_set (i := 3) sc_rooms_that_lead_on.nd rfl (Or.inl rfl) (pe_fn C_rooms_with_ends hr (by decide : 1 ≤ 2) (by rfl) (pa_cons (pv 0) pa_nil)))
      (pss_cons (ps_set (i := 4) sc_rooms_that_lead_on.nd rfl (Or.inl rfl) (pe_lst (pa_cons (pv 3) pa_nil)))
      (pss_cons (ps_for PassesOwn.never (by rfl) (pi_rvt (by rfl) B.reversed (pa_cons (pv 1) pa_nil)) (pg_name (i := 5) sc_rooms_that_lead_on.nd rfl (Or.inl rfl)) (pss_cons (ps_set (i := 3) sc_rooms_that_lead_on.nd rfl (Or.inl rfl) (pe_fn C_rooms_ahead hr (by decide : 1 ≤ 2) (by rfl) (pa_cons (pv 3) (pa_cons (pv 5) (pa_cons (pv 2) pa_nil)))))
      (pss_one (ps_expr (kPE (K := K) (fun k => tBM k _ _ _ _) (pe_bm PySem.F.plainAttrs_list PySem.F.slot_list_append PySem.F.type_list_append mt_append (pv 4) (pa_cons (pv 3) pa_nil)))))))
      (pss_one (ps_ret (pe_listrev (by rfl) (by rfl) B.list (by rfl) B.reversed (pv 4)))))))), ?_⟩
  refine ⟨_, rfl, v, s, pb, ps, pe, rfl, hV, hsl, fun sv H1 g1 hD => ?_⟩
  have hV1 := hV.mono g1
  have hee : ∀ y ∈ endsI s, f ≤ y ∧ y < f + 15 := fun y hy => by
    obtain ⟨m, hm, rfl⟩ := List.mem_map.mp hy
    exact hf2 m hm
  have hol : (onceM (endsI s)).length ≤ 15 := nd_len 15 (f := f) (once_nodup _) fun y hy => hee y (once_iff.mp hy)
  refine ⟨_, rfl, v, s, pb, ps, pe, rfl, hV1, hel, by omega, fun l0 H2 ns g2 hl0 hp _ h0 => ?_⟩
  refine ⟨_, rfl, szl (by simp), fun lf hlf => ?_⟩
  have h1f : H1 lf = none := g2.free hlf
  have gf := same_new hlf (.lst [V.ref l0])
  have ef := upd_same (H := H2) (a := lf) (o := .lst [V.ref l0])
  have e0 := gf _ _ h0
  have n0 : l0 ≠ lf := fun e => by rw [e, hlf] at h0; cases h0
  have g3 := g2.trans gf
  generalize upd H2 lf (.lst [V.ref l0]) = H3 at ef e0 g3 ⊢
  have hcl : (cl x).length = x.length := rfl
  refine ⟨_, rfl, x, rfl, (by have : x.cps.size ≤ 62 := hxl; omega), ?_⟩
  refine for_str (x := ⟨x.cps.reverse⟩) (fun i σ H' => Same H1 H' ∧ i ≤ x.length ∧ ∃ r x5 rs, σ = [some v, some (.str x), some sv, some (.ref r), some (.ref lf), x5] ∧ H' lf = some (.lst (rs.map V.ref)) ∧ rs.length = i + 1 ∧ rs[i]? = some r ∧ ∀ j r', rs[j]? = some r' → r' ≠ lf ∧ Rch s.steps (endsI s) H' ((cl x).drop (x.length - j)) r')
    ⟨g3, Nat.zero_le _, l0, none, [l0], rfl, ef, rfl, rfl, fun j r' hj => ?_⟩ ?_ ?_
  · have ej : j = 0 := by
      have := (List.getElem?_eq_some_iff.mp hj).1
      simpa using this
    subst ej
    cases hj
    refine ⟨n0, ns, e0, by rw [hp.length_eq]; exact hol, fun y => ?_⟩
    rw [hp.mem_iff, once_iff, Nat.sub_zero, ← hcl, List.drop_length, goes]
    simp
  · rintro i c σ H4 hc ⟨g4, hi, r, x5, rs, rfl, h4, hrl, hri, hall⟩
    have hc2 : (cl x).reverse[i]? = some c := by rw [← hc]; show x.cps.toList.reverse[i]? = x.cps.reverse.toList[i]?; rw [Array.toList_reverse]
    have hil : i < x.length := by
      have := (List.getElem?_eq_some_iff.mp hc2).1
      rwa [List.length_reverse] at this
    rw [List.getElem?_reverse hil, hcl] at hc2
    obtain ⟨nr, R, hR, hRl, hRm⟩ := hall _ _ hri
    have hdr : (cl x).drop (x.length - 1 - i) = c :: (cl x).drop (x.length - i) := by
      rw [List.drop_eq_getElem?_toList_append, hc2, show x.length - 1 - i + 1 = x.length - i from by omega]; rfl
    have hoa : (onceM (aheadL (mvs s.steps) ⟨#[c]⟩ R)).length ≤ 15 := nd_len 15 (f := f) (once_nodup _) fun y hy => by
      obtain ⟨t, ht, rfl, _⟩ := mem_ahead.mp (once_iff.mp hy)
      exact hf1 t ht
    refine ⟨_, rfl, _, rfl, _, rfl, r, R, _, sv, mvs s.steps, H, rfl, SqL.of hR, by omega, ahead_len hsl hRl, by omega, hD.mono g4, fun l H5 ns' g5 hl hp5 _ e5 => ?_⟩
    have hmem := goes_ahead (E := endsI s) hRm hp5
    have h5 := g5 _ _ h4
    have nl : l ≠ lf := fun e => by rw [e, h4] at hl; cases hl
    refine ⟨_, rfl, .inl ⟨rfl, _, SqL.of h5⟩, _, rfl, lf, _, _, rfl, rfl, h5, szl' (by rw [List.length_map]; omega), ?_⟩
    refine ⟨same_updN (g4.trans g5) h1f, hil, l, _, rs ++ [l], rfl, by rw [List.map_append]; exact upd_same, by rw [List.length_append, hrl]; rfl, by rw [List.getElem?_append_right (by omega), hrl]; simp, fun j r' hj => ?_⟩
    by_cases cj : j < rs.length
    · rw [List.getElem?_append_left cj] at hj
      obtain ⟨n1, R1, hR1, hq1⟩ := hall _ _ hj
      exact ⟨n1, R1, (upd_ne n1).trans (g5 _ _ hR1), hq1⟩
    · have ej : j = i + 1 := by
        have := (List.getElem?_eq_some_iff.mp hj).1
        rw [List.length_append, hrl] at this
        simp at this
        omega
      subst ej
      rw [List.getElem?_append_right (by omega), hrl] at hj
      simp at hj
      subst hj
      refine ⟨nl, ns', (upd_ne nl).trans e5, by rw [hp5.length_eq]; exact hoa, fun y => ?_⟩
      rw [hmem, show x.length - (i + 1) = x.length - 1 - i from by omega, hdr]
  rintro σ H4 ⟨g4, _, r, x5, rs, rfl, h4, hrl, hri, hall⟩
  have el : (⟨x.cps.reverse⟩ : Str).cps.toList.length = x.length := by rw [Array.length_toList, Array.size_reverse]; rfl
  rw [el] at hrl
  refine ⟨_, rfl, lf, _, rfl, h4, fun p hp => ?_⟩
  have gp := same_new hp (.lst (rs.map V.ref).reverse)
  refine q p _ rs.reverse ((g1.trans g4).trans gp) ((g1.trans g4).free hp) (by rw [List.map_reverse]; exact upd_same) (by rw [List.length_reverse, hrl]) fun i r' hi => ?_
  have hil : i < rs.length := by
    have := (List.getElem?_eq_some_iff.mp hi).1
    rwa [List.length_reverse] at this
  rw [List.getElem?_reverse hil] at hi
  have := (hall _ _ hi).2
  rw [show x.length - (rs.length - 1 - i) = i from by omega] at this
  exact this.mono gp

theorem sc_first_mark : FnScope ["marks", "rooms", "place", "mark"] ["marks", "rooms"] (defScope s_first_mark) := ⟨rfl, rfl, rfl, by decide +kernel, rfl, by decide +kernel, by decide +kernel⟩
theorem ok_first_mark (B : Bi mg) {c_NoWay : Addr} (XB : Xb K mg c_NoWay)  {f : Addr} {fd : FuncData} (F : Fun K "first_mark" "first_mark" s_first_mark f fd) : FnOk P w K mg base CX0 1 f fd ["marks", "rooms"] (spFirstM K) := by
  refine F.ok sc_first_mark (fun vs H Q E h => ?_) (fun cdv A outer s H vs Q E hr h => ?_)
  · obtain ⟨p, r, M, R, rfl, _⟩ := h; rfl
  obtain ⟨p, r, M, R, rfl, ⟨xs, h3, h6⟩, hR, hs, hl, q⟩ := h
  refine ⟨_, (pss_cons (ps_for PassesOwn.never (by rfl) (kPI (K := K) (fun k => iEnu k _) (pi_enu (by rfl) B.enumerate (pa_cons (pv 0) pa_nil))) (kPG (K := K) (fun k => gTup k 2 _) (pg_tup (n := 2) (by rfl) (pgs_cons (pg_name (i := 2) sc_first_mark.nd rfl (Or.inl rfl)) (pgs_cons (pg_name (i := 3) sc_first_mark.nd rfl (Or.inl rfl)) pgs_nil)))) (pss_one (ps_if (pt_cmpR (kOp (K := K) (rIn · false) op_in_seq) (pe_ix (kIx (K := K) rIxT ix_tup) (pv 3) pe_int (by intro _ _; rfl)) (pv 1) rfl) (pss_one (ps_ret (pv 2))) pss_nil)))
      (pss_one (ps_ret pe_non))), ?_⟩
  have hsx : M.length = xs.length := h6.length
  refine ⟨_, rfl, p, rfl, ⟨xs, h3⟩, ?_⟩
  refine for_enu (xs := xs) (fun i σ H' => Same H H' ∧ i ≤ xs.length ∧ (∃ x y, σ = [some (.ref p), some (.ref r), x, y]) ∧ firstIn R (M.map (·.1)) 0 = firstIn R ((M.drop i).map (·.1)) i)
    ⟨Same.refl _, Nat.zero_le _, ⟨_, _, rfl⟩, rfl⟩ (fun i σ H' _ z => z.1.seq h3) ?_ ?_
  · rintro i x p0 σ H1 hx ⟨g1, hi, ⟨x2, x3, rfl⟩, hf⟩ hp0
    obtain ⟨m, hm, b, rfl, hb⟩ := paired_get h6 hx
    have hil : i < xs.length := (List.getElem?_eq_some_iff.mp hx).1
    have gp := same_new hp0 (.tup [V.int i, V.ref b])
    have ep := upd_same (H := H1) (a := p0) (o := .tup [V.int i, V.ref b])
    have g1 := g1.trans gp
    generalize upd H1 p0 (.tup [V.int i, V.ref b]) = H2 at ep g1 ⊢
    refine ⟨p0, _, rfl, SqT.of ep, rfl, _, _, rfl, _, _, rfl, rfl, ?_⟩
    refine ⟨_, rfl, b, _, _, _, rfl, rfl, Same.seqT g1 hb, rfl, _, rfl, r, _, rfl, .inl (g1.seq hR), rfl, flat_ints R, _, rfl, ?_⟩
    have hdr : M.drop i = m :: M.drop (i + 1) := List.drop_eq_getElem?_toList_append.trans (by rw [hm]; rfl)
    rw [hdr, List.map_cons, firstIn] at hf
    show if inV (V.int m.1) (R.map V.int) = true then _ else _
    rw [any_ints]
    by_cases c : m.1 ∈ R
    · rw [if_pos c] at hf
      rw [if_pos (decide_eq_true c)]
      have := q _ g1
      rw [hf] at this
      exact ⟨_, rfl, this⟩
    · rw [if_neg c] at hf
      rw [if_neg (by simpa using c)]
      exact ⟨g1, hil, ⟨_, _, rfl⟩, hf⟩
  rintro σ H1 ⟨g1, _, ⟨x2, x3, rfl⟩, hf⟩
  rw [← hsx, List.drop_length] at hf
  have := q _ g1
  rw [hf] at this
  exact this

theorem sc_places_by_start : FnScope ["steps", "found", "place", "step"] ["steps"] (defScope s_places_by_start) := ⟨rfl, rfl, rfl, by decide +kernel, rfl, by decide +kernel, by decide +kernel⟩
theorem ok_places_by_start (B : Bi mg) {c_NoWay : Addr} (XB : Xb K mg c_NoWay)  {f : Addr} {fd : FuncData} (F : Fun K "places_by_start" "places_by_start" s_places_by_start f fd) : FnOk P w K mg base CX0 1 f fd ["steps"] (spPlacesBy K) := by
  refine F.ok sc_places_by_start (fun vs H Q E h => ?_) (fun cdv A outer s H vs Q E hr h => ?_)
  · obtain ⟨p, S, rfl, _⟩ := h; rfl
  obtain ⟨a, S, rfl, ⟨xs, h3, h6⟩, hs, q⟩ := h
  refine ⟨_, (pss_cons (ps_set (i := 1) sc_places_by_start.nd rfl (Or.inl rfl) pe_dnewT)
      (pss_cons (ps_for PassesOwn.never (by rfl) (kPI (K := K) (fun k => iEnu k _) (pi_enu (by rfl) B.enumerate (pa_cons (pv 0) pa_nil))) (kPG (K := K) (fun k => gTup k 2 _) (pg_tup (n := 2) (by rfl) (pgs_cons (pg_name (i := 2) sc_places_by_start.nd rfl (Or.inl rfl)) (pgs_cons (pg_name (i := 3) sc_places_by_start.nd rfl (Or.inl rfl)) pgs_nil)))) (pss_one (ps_expr (kPE (K := K) (fun k => tBM k _ _ _ _) (pe_bm PySem.F.plainAttrs_list PySem.F.slot_list_append PySem.F.type_list_append mt_append (kPE (K := K) (fun k => tBM k _ _ _ _) (pe_bm PySem.F.plainAttrs_dict PySem.F.slot_dict_setdefault PySem.F.type_dict_setdefault (mt_setdefault hr) (pv 1) (pa_cons (pe_tup (pa_cons (pe_ix (kIx (K := K) rIxT ix_tup) (pv 3) pe_int (by intro _ _; rfl)) (pa_cons (pe_ix (kIx (K := K) rIxT ix_tup) (pv 3) pe_int (by intro _ _; rfl)) pa_nil))) (pa_cons (pe_lst pa_nil) pa_nil)))) (pa_cons (pv 2) pa_nil))))))
      (pss_one (ps_ret (pv 1))))), ?_⟩
  have hsx : S.length = xs.length := h6.length
  refine fun d hd => ?_
  have g0 := same_new hd (.dT [])
  refine ⟨_, rfl, a, rfl, ⟨xs, g0.seq h3⟩, ?_⟩
  refine for_enu (xs := xs) (fun i σ H' => Same H H' ∧ i ≤ xs.length ∧ (∃ x y, σ = [some (.ref a), some (.ref d), x, y]) ∧ ∃ kvs, H' d = some (.dT kvs) ∧ Bk isQ (pKey S) H H' d (List.range i) kvs)
    ⟨g0, Nat.zero_le _, ⟨_, _, rfl⟩, [], upd_same, Bk.nil⟩ (fun i σ H' _ z => z.1.seq h3) ?_ ?_
  · rintro i x p0 σ H1 hx ⟨g1, hi, ⟨x2, x3, rfl⟩, kvs, hkd, bk⟩ hp0
    obtain ⟨t, ht, b, rfl, hb⟩ := paired_get h6 hx
    have hil : i < xs.length := (List.getElem?_eq_some_iff.mp hx).1
    have gp := same_new hp0 (.tup [V.int i, V.ref b])
    have ep := upd_same (H := H1) (a := p0) (o := .tup [V.int i, V.ref b])
    have hkd := gp _ _ hkd
    have bk := bk.mono isq_gt gp
    have g1 := g1.trans gp
    generalize upd H1 p0 (.tup [V.int i, V.ref b]) = H1 at gp ep hkd bk g1 ⊢
    have hb1 := (Same.grow g1).seqT hb
    have hkl : kvs.length ≤ 999 := by have := bk.len; rw [List.length_range] at this; omega
    refine ⟨p0, _, rfl, SqT.of ep, rfl, _, _, rfl, _, _, rfl, rfl, ?_⟩
    refine ⟨_, rfl, .inr (.inr (.inl ⟨rfl, .inr ⟨kvs, hkd⟩⟩)), ?_⟩
    refine ⟨_, rfl, _, _, _, _, rfl, rfl, hb1, rfl, _, rfl, _, _, _, _, rfl, rfl, hb1, rfl, (by show 2 ≤ sizeLine; decide), fun p hp => ?_⟩
    have gp' := same_new hp (.tup [V.int t.1, V.str t.2.1])
    have hkd := gp' _ _ hkd
    have bk := bk.mono isq_gt gp'
    have g1 := g1.trans gp'
    have ep := upd_same (H := H1) (a := p) (o := .tup [V.int t.1, V.str t.2.1])
    dsimp only at hp ⊢
    generalize upd H1 p (.tup [V.int t.1, V.str t.2.1]) = H1 at hkd bk g1 ep ⊢
    refine ⟨szl (by simp), fun l hl => ?_⟩
    have ep2 := same_new hl (.lst []) _ _ ep
    have gl := same_new hl (.lst [])
    have hk2 := gl _ _ hkd
    have bk2 := bk.mono isq_gt gl
    have g2 := g1.trans gl
    have el : upd H1 l (.lst []) l = some (.lst []) := upd_same
    have hl0 : H l = none := g1.free hl
    have hln : ∀ k, valV kvs k ≠ some (.ref l) := fun k hk => by
      obtain ⟨l', ys, e, _, _, h3', _⟩ := bk.there k _ hk
      injection e with e
      subst e
      rw [h3'] at hl; cases hl
    have hld : l ≠ d := (ne_of_none hkd hl).symm
    generalize upd H1 l (.lst []) = H2 at hk2 bk2 g2 el ep2 ⊢
    have hkey : pKey S i = [Sum.inl t.1, Sum.inr t.2.1] := by unfold pKey; rw [ht]
    refine ⟨d, .ref p, .ref l, rfl, rfl, .inr ⟨kvs, pKey S i, p, hk2, rfl, by rw [hkey]; exact ep2, szl' (by omega), fun r hr2 => ?_, fun hnn => ?_⟩⟩
    · obtain ⟨l2, ys, rfl, j1, j2, j3, j4, j5⟩ := bk2.there _ _ hr2
      have hyl : ys.length ≤ 999 := by
        rw [← j4.length]
        have := List.length_filter_le (fun t' => decide (pKey S t' = pKey S i)) (List.range i)
        rw [List.length_range] at this; omega
      refine ⟨.inl ⟨rfl, _, SqL.of j3⟩, _, rfl, l2, ys, _, rfl, rfl, j3, szl' (by omega), ?_⟩
      refine ⟨same_updN g2 j1, hil, ⟨_, _, rfl⟩, kvs, by rw [upd_ne j2.symm]; exact hk2, ?_⟩
      rw [List.range_succ]
      exact bk2.put isq_gt hr2 j3 rfl
    · have e3 : upd H2 d (.dT (putK kvs (pKey S i) (.ref l))) l = some (.lst []) := by rw [upd_ne hld]; exact el
      refine ⟨.inl ⟨rfl, _, SqL.of e3⟩, _, rfl, l, [], _, rfl, rfl, e3, szl' (by simp), ?_⟩
      refine ⟨same_updN (same_updN g2 hd) hl0, hil, ⟨_, _, rfl⟩, putK kvs (pKey S i) (.ref l), by rw [upd_ne hld.symm]; exact upd_same, ?_⟩
      rw [List.range_succ]
      exact bk2.new isq_gt hnn hl0 hld hk2 (fun _ z => nomatch z) (fun _ _ z => nomatch z) hln el rfl
  rintro σ H1 ⟨g1, _, ⟨x2, x3, rfl⟩, kvs, hkd, bk⟩
  rw [← hsx] at bk
  exact ⟨_, rfl, q _ _ g1 ⟨d, kvs, rfl, hd, hkd, bk⟩⟩

theorem sc_first_step_into : FnScope ["rooms", "places", "steps", "place"] ["rooms", "places", "steps"] (defScope s_first_step_into) := ⟨rfl, rfl, rfl, by decide +kernel, rfl, by decide +kernel, by decide +kernel⟩
theorem ok_first_step_into (B : Bi mg) {c_NoWay : Addr} (XB : Xb K mg c_NoWay)  {f : Addr} {fd : FuncData} (F : Fun K "first_step_into" "first_step_into" s_first_step_into f fd) : FnOk P w K mg base CX0 1 f fd ["rooms", "places", "steps"] (spInto K) := by
  refine F.ok sc_first_step_into (fun vs H Q E h => ?_) (fun cdv A outer s H vs Q E hr h => ?_)
  · obtain ⟨r, pl, ps, R, is, S, rfl, _⟩ := h; rfl
  obtain ⟨r, pl, ps, R, is, S, rfl, hR, hP, ⟨xs, h3, h6⟩, hi, hs, q⟩ := h
  refine ⟨_, (pss_cons (ps_for PassesOwn.never (by rfl) (kPI (K := K) (fun k => iList k _) (pi_list (pv 1))) (pg_name (i := 3) sc_first_step_into.nd rfl (Or.inl rfl)) (pss_one (ps_if (pt_cmpR (kOp (K := K) (rIn · false) op_in_seq) (pe_ix (kIx (K := K) rIxT ix_tup) (pe_ix (kIx (K := K) rIxL ix_list) (pv 2) (pv 3) (by intro _ _; rfl)) (pe_globI (by rfl) B.INTO) (by intro _ _; rfl)) (pv 0) rfl) (pss_one (ps_ret (pv 3))) pss_nil)))
      (pss_one (ps_ret pe_non))), ?_⟩
  refine ⟨_, rfl, pl, rfl, ⟨_, hP⟩, ?_⟩
  refine for_list (xs := is.map fun (i : Nat) => V.int i) (fun i σ H' => H = H' ∧ i ≤ is.length ∧ (∃ x, σ = [some (.ref r), some (.ref pl), some (.ref ps), x]) ∧ is.find? (stepIn S R) = (is.drop i).find? (stepIn S R))
    ⟨rfl, Nat.zero_le _, ⟨_, rfl⟩, rfl⟩ (fun i σ H' _ z => z.1 ▸ hP) ?_ ?_
  · rintro i x σ _ hx ⟨rfl, hil, ⟨x3, rfl⟩, hf⟩
    rw [List.getElem?_map] at hx
    obtain ⟨k, hk, rfl⟩ := Option.map_eq_some_iff.mp hx
    have hil : i < is.length := (List.getElem?_eq_some_iff.mp hk).1
    have hkl := hi k (List.mem_of_getElem? hk)
    obtain ⟨t, ht⟩ : ∃ t, S[k]? = some t := ⟨S[k], List.getElem?_eq_getElem hkl⟩
    obtain ⟨v, hv, b, rfl, hb⟩ := paired_getL h6 ht
    refine ⟨_, rfl, _, rfl, ps, xs, _, _, rfl, rfl, h3, atI_nat hv, b, _, _, _, rfl, rfl, hb, rfl, _, rfl, r, _, rfl, .inl hR, rfl, flat_ints R, _, rfl, ?_⟩
    have hdr : is.drop i = k :: is.drop (i + 1) := List.drop_eq_getElem?_toList_append.trans (by rw [hk]; rfl)
    have hst : stepIn S R k = decide (t.2.2.2 ∈ R) := by unfold stepIn goalAt; rw [ht]
    rw [hdr, List.find?_cons, hst] at hf
    show if inV (V.int t.2.2.2) (R.map V.int) = true then _ else _
    rw [any_ints]
    by_cases c : t.2.2.2 ∈ R
    · rw [decide_eq_true c] at hf ⊢
      rw [if_pos rfl]
      rw [hf] at q
      exact ⟨_, rfl, q⟩
    · rw [decide_eq_false c] at hf ⊢
      rw [if_neg (fun z => nomatch z)]
      exact ⟨rfl, hil, ⟨_, rfl⟩, hf⟩
  rintro σ _ ⟨rfl, _, ⟨x3, rfl⟩, hf⟩
  rw [List.length_map, List.drop_length] at hf
  rw [hf] at q
  exact q

theorem sc_first_way : FnScope ["scribe", "text", "leading_on", "begin", "room", "places", "row", "sign", "rooms", "place"] ["scribe", "text"] (defScope s_first_way) := ⟨rfl, rfl, rfl, by decide +kernel, rfl, by decide +kernel, by decide +kernel⟩
theorem ok_first_way (B : Bi mg) {c_NoWay : Addr} (XB : Xb K mg c_NoWay) (C_rooms_that_lead_on : Cal P w K mg base "rooms_that_lead_on" ["scribe", "text"] 3 (spLead K)) (C_first_mark : Cal P w K mg base "first_mark" ["marks", "rooms"] 1 (spFirstM K)) (C_places_by_start : Cal P w K mg base "places_by_start" ["steps"] 1 (spPlacesBy K)) (C_first_step_into : Cal P w K mg base "first_step_into" ["rooms", "places", "steps"] 1 (spInto K)) {f : Addr} {fd : FuncData} (F : Fun K "first_way" "first_way" s_first_way f fd) : FnOk P w K mg base CX0 4 f fd ["scribe", "text"] (spFW K) := by
  refine F.ok sc_first_way (fun vs H Q E h => ?_) (fun cdv A outer s H vs Q E hr h => ?_)
  · obtain ⟨v, s, pb, ps, pe, x, rfl, _⟩ := h; rfl
  obtain ⟨v, s, pb, ps, pe, x, rfl, hV, hbl, hel, hsl, hxl, hrg, qn, qs⟩ := h
  refine ⟨_, (pss_cons (ps_set (i := 2) sc_first_way.nd rfl (Or.inl rfl) (pe_fn C_rooms_that_lead_on hr (by decide : 3 ≤ 3) (by rfl) (pa_cons (pv 0) (pa_cons (pv 1) pa_nil))))
      (pss_cons (ps_set (i := 3) sc_first_way.nd rfl (Or.inl rfl) (pe_fn C_first_mark hr (by decide : 1 ≤ 3) (by rfl) (pa_cons (pe_ix (kIx (K := K) rIxT ix_tup) (pv 0) (pe_globI (by rfl) B.BEGINS) (by intro _ _; rfl)) (pa_cons (pe_ix (kIx (K := K) rIxL ix_list) (pv 2) pe_int (by intro _ _; rfl)) pa_nil))))
      (pss_cons (ps_if (pt_cmpR op_isN (pv 3) pe_non (nomark _)) (pss_one (ps_ret pe_non)) pss_nil)
      (pss_cons (ps_set (i := 4) sc_first_way.nd rfl (Or.inl rfl) (pe_ix (kIx (K := K) rIxT ix_tup) (pe_ix (kIx (K := K) rIxL ix_list) (pe_ix (kIx (K := K) rIxT ix_tup) (pv 0) (pe_globI (by rfl) B.BEGINS) (by intro _ _; rfl)) (pv 3) (by intro _ _; rfl)) pe_int (by intro _ _; rfl)))
      (pss_cons (ps_set (i := 5) sc_first_way.nd rfl (Or.inl rfl) (pe_fn C_places_by_start hr (by decide : 1 ≤ 3) (by rfl) (pa_cons (pe_ix (kIx (K := K) rIxT ix_tup) (pv 0) (pe_globI (by rfl) B.STEPS) (by intro _ _; rfl)) pa_nil)))
      (pss_cons (ps_set (i := 6) sc_first_way.nd rfl (Or.inl rfl) (pe_lst pa_nil))
      (pss_cons (ps_for PassesOwn.never (by rfl) (kPI (K := K) (fun k => iZst k _) (pi_zst (by rfl) B.zip (pa_cons (pv 1) (pa_cons (pe_slice (kSl (K := K) rSlL sl_list) (pv 2) (po_some pe_int) po_none) pa_nil)))) (kPG (K := K) (fun k => gTup k 2 _) (pg_tup (n := 2) (by rfl) (pgs_cons (pg_name (i := 7) sc_first_way.nd rfl (Or.inl rfl)) (pgs_cons (pg_name (i := 8) sc_first_way.nd rfl (Or.inl rfl)) pgs_nil)))) (pss_cons (ps_set (i := 9) sc_first_way.nd rfl (Or.inl rfl) (pe_fn C_first_step_into hr (by decide : 1 ≤ 3) (by rfl) (pa_cons (pv 8) (pa_cons (pe_dget (hu_of hr) (pv 5) (pe_tup (pa_cons (pv 4) (pa_cons (pv 7) pa_nil))) (by intro _ _; rfl)) (pa_cons (pe_ix (kIx (K := K) rIxT ix_tup) (pv 0) (pe_globI (by rfl) B.STEPS) (by intro _ _; rfl)) pa_nil)))))
      (pss_cons (ps_expr (kPE (K := K) (fun k => tBM k _ _ _ _) (pe_bm PySem.F.plainAttrs_list PySem.F.slot_list_append PySem.F.type_list_append mt_append (pv 6) (pa_cons (pv 9) pa_nil))))
      (pss_one (ps_set (i := 4) sc_first_way.nd rfl (Or.inl rfl) (pe_ix (kIx (K := K) rIxT ix_tup) (pe_ix (kIx (K := K) rIxL ix_list) (pe_ix (kIx (K := K) rIxT ix_tup) (pv 0) (pe_globI (by rfl) B.STEPS) (by intro _ _; rfl)) (pv 9) (by intro _ _; rfl)) (pe_globI (by rfl) B.INTO) (by intro _ _; rfl)))))))
      (pss_one (ps_ret (pe_tup (pa_cons (pv 3) (pa_cons (pv 6) (pa_cons (pe_fn C_first_mark hr (by decide : 1 ≤ 3) (by rfl) (pa_cons (pe_ix (kIx (K := K) rIxT ix_tup) (pv 0) (pe_globI (by rfl) B.ENDS) (by intro _ _; rfl)) (pa_cons (pe_lst (pa_cons (pv 4) pa_nil)) pa_nil))) pa_nil))))))))))))), ?_⟩
  obtain ⟨a, xb, xs, xe, rfl, h1, h2, h3, h4, h5, h6, h7⟩ := id hV
  have lxb : s.begins.length = xb.length := h5.length
  have lxs : s.steps.length = xs.length := h6.length
  have lxe : s.ends.length = xe.length := h7.length
  have hcl : (cl x).length = x.length := cl_length x
  refine ⟨_, rfl, _, rfl, _, s, pb, ps, pe, x, rfl, hV, hel, hsl, hxl, hrg, fun lo H1 rs g1 hlo elo hrs hall => ?_⟩
  obtain ⟨r0, hr0⟩ : ∃ r, rs[0]? = some r := ⟨_, List.getElem?_eq_getElem (by omega)⟩
  obtain ⟨R0, hR0, hR0l, hR0m⟩ := hall _ _ hr0
  rw [List.drop_zero] at hR0m
  have hr0v : (rs.map V.ref)[0]? = some (.ref r0) := by rw [List.getElem?_map, hr0]; rfl
  refine ⟨_, rfl, a, _, _, _, rfl, rfl, Same.seqT g1 h1, rfl, _, rfl, lo, _, _, _, rfl, rfl, SqL.of elo, atI_nat (j := 0) hr0v, pb, r0, s.begins, R0, rfl, MkL.mono g1 ⟨xb, h2, h5⟩, SqL.of hR0, hbl, by omega, fun H2 g2 => ?_⟩
  rw [firstIn_P hR0m]
  cases hf : firstP (goes s.steps (endsI s) (cl x)) (s.begins.map (·.1)) 0 with
  | none =>
    refine ⟨_, rfl, rfl, _, rfl, iteDd (fun _ => ?_) (fun c => absurd rfl c)⟩
    exact qn (by unfold fwS; rw [hf]; rfl) _ (g1.trans g2)
  | some i =>
  have hopt : optI (some i) = V.int (i : Int) := rfl
  rw [hopt]
  clear hopt
  refine ⟨_, rfl, rfl, _, rfl, iteDd (fun c => nomatch c) (fun _ => ?_)⟩
  obtain ⟨_, mi, hmi, hgo⟩ := firstP_at _ _ _ hf
  rw [Nat.sub_zero, List.getElem?_map] at hmi
  obtain ⟨m, hm, rfl⟩ := Option.map_eq_some_iff.mp hmi
  obtain ⟨vm, hvm, bm, rfl, hbm⟩ := paired_getL h5 hm
  have gA := g1.trans g2
  refine ⟨_, rfl, a, _, _, _, rfl, rfl, Same.seqT gA h1, rfl, _, rfl, pb, xb, _, _, rfl, rfl, gA.seq h2, atI_nat hvm, bm, _, _, _, rfl, rfl, Same.seqT gA hbm, rfl, ?_⟩
  refine ⟨_, rfl, a, _, _, _, rfl, rfl, Same.seqT gA h1, rfl, ps, s.steps, rfl, StL.mono gA ⟨xs, h3, h6⟩, hsl, fun pv H3 g3 hP => ?_⟩
  obtain ⟨pd, kvs, rfl, hpd0, epd, bk⟩ := hP
  have gB := gA.trans g3
  refine ⟨szl (by simp), fun lr hlr => ?_⟩
  have gl := same_new hlr (.lst [])
  have el := upd_same (H := H3) (a := lr) (o := .lst [])
  have hlr0 : H lr = none := gB.free hlr
  generalize upd H3 lr (.lst []) = H4 at el gl ⊢
  refine ⟨_, rfl, _, rfl, _, rfl, lo, _, rfl, SqL.of (((g2.trans g3).trans gl) _ _ elo), fun lc hlc => ?_⟩
  rw [cut1 (rs := rs) (by omega)]
  have hne : lc ≠ lr := fun z => by rw [z, el] at hlc; cases hlc
  have gc := same_new hlc (.lst ((rs.drop 1).map V.ref))
  have ec := upd_same (H := H4) (a := lc) (o := .lst ((rs.drop 1).map V.ref))
  have el := gc _ _ el
  have g4 := gl.trans gc
  generalize upd H4 lc (.lst ((rs.drop 1).map V.ref)) = H5 at el ec g4 ⊢
  refine ⟨x, lc, rfl, ⟨_, SqL.of ec⟩, ?_⟩
  have hlz : x.cps.toList.length ≤ ((rs.drop 1).map V.ref).length := by rw [List.length_map, List.length_drop, hrs]; show x.length ≤ _; omega
  have hgo0 : goes s.steps (endsI s) ((cl x).drop 0) m.1 = true := hgo
  refine for_zst (K := K) (x := x) (l := lc) (ys := (rs.drop 1).map V.ref) hlz (fun j σ H' => Same H3 H' ∧ j ≤ x.length ∧ ∃ (r : Int) (is : List Int) (x7 x8 x9 : Option V), σ = [some (.ref a), some (.str x), some (.ref lo), some (.int (i : Int)), some (.int r), some (.ref pd), some (.ref lr), x7, x8, x9] ∧ H' lr = some (.lst (is.map V.int)) ∧ H' lc = some (.lst ((rs.drop 1).map V.ref)) ∧ is.length = j ∧ goes s.steps (endsI s) ((cl x).drop j) r = true ∧ wayGo s.steps (endsI s) (cl x) m.1 = (is ++ (wayGo s.steps (endsI s) ((cl x).drop j) r).1, (wayGo s.steps (endsI s) ((cl x).drop j) r).2))
    ⟨g4, Nat.zero_le _, m.1, [], none, none, none, rfl, el, ec, rfl, hgo0, rfl⟩ (fun j σ H' _ z => let ⟨_, _, _, _, _, _, _, _, _, e, _⟩ := z; SqL.of e) ?_ ?_
  · rintro j c y p σ H6 hc hy ⟨g6, _, r, is, x7, x8, x9, rfl, el6, ec6, hisl, hgr6, hway⟩ hp0
    have hj : j < x.length := by rw [← hcl]; exact (List.getElem?_eq_some_iff.mp hc).1
    rw [List.getElem?_map, List.getElem?_drop] at hy
    obtain ⟨rr, hrr, rfl⟩ := Option.map_eq_some_iff.mp hy
    obtain ⟨R, hR, hRl, hRm⟩ := hall _ _ hrr
    rw [Nat.add_comm 1 j] at hRm
    have hdc : (cl x).drop j = c :: (cl x).drop (j + 1) := List.drop_eq_getElem?_toList_append.trans (by rw [hc]; rfl)
    rw [hdc] at hgr6 hway
    have gp := same_new hp0 (.tup [V.str ⟨#[c]⟩, V.ref rr])
    have ep := upd_same (H := H6) (a := p) (o := .tup [V.str ⟨#[c]⟩, V.ref rr])
    have el7 := gp _ _ el6
    have ec7 := gp _ _ ec6
    have g7 := g6.trans gp
    generalize upd H6 p (.tup [V.str ⟨#[c]⟩, V.ref rr]) = H7 at ep el7 ec7 g7 ⊢
    refine ⟨p, _, rfl, SqT.of ep, rfl, _, _, rfl, _, _, rfl, rfl, ?_⟩
    refine ⟨_, rfl, _, rfl, _, rfl, _, rfl, (by show 2 ≤ sizeLine; decide), fun pk hpk => ?_⟩
    have gk := same_new hpk (.tup [V.int r, V.str ⟨#[c]⟩])
    have ek : upd H7 pk (.tup [V.int r, V.str ⟨#[c]⟩]) pk = some (.tup (([Sum.inl r, Sum.inr ⟨#[c]⟩] : List Key).map kV)) := upd_same
    have el8 := gk _ _ el7
    have ec8 := gk _ _ ec7
    have g8 := g7.trans gk
    generalize upd H7 pk (.tup [V.int r, V.str ⟨#[c]⟩]) = H8 at ek el8 ec8 g8 ⊢
    obtain ⟨k0, t, hk0, ht0, e1, e2, e3, e4⟩ := goes_some hgr6
    have hk0l : k0 < s.steps.length := (List.getElem?_eq_some_iff.mp ht0).1
    have hget : DGet H8 pd (.ref pk) (valV kvs [Sum.inl r, Sum.inr ⟨#[c]⟩]) := DGet.t (g8 _ _ epd) ek
    cases hv : valV kvs [Sum.inl r, Sum.inr ⟨#[c]⟩] with
    | none =>
      have hz := bk.nokey _ hv
      have : k0 ∈ (List.range s.steps.length).filter fun i => decide (pKey s.steps i = [Sum.inl r, Sum.inr ⟨#[c]⟩]) := by
        rw [List.mem_filter]
        refine ⟨List.mem_range.mpr hk0l, decide_eq_true ?_⟩
        unfold pKey; rw [ht0]; dsimp only; rw [e1, e2]
      rw [hz] at this
      cases this
    | some u =>
    rw [hv] at hget
    obtain ⟨l1, ys, rfl, _, _, h8, h9, _⟩ := bk.there _ _ hv
    rw [isq_eq h9] at h8
    have gD := gB.trans g8
    refine ⟨pd, _, rfl, hget, _, rfl, a, _, _, _, rfl, rfl, Same.seqT gD h1, rfl, rr, l1, ps, R, _, s.steps, rfl, SqL.of (((g2.trans g3).trans g8) _ _ hR), SqL.of (g8 _ _ h8), StL.mono gD ⟨xs, h3, h6⟩, fun i hi => List.mem_range.mp (List.mem_filter.mp hi).1, hsl, ?_⟩
    rw [into_nx hRm, hk0]
    refine ⟨_, rfl, .inl ⟨rfl, _, SqL.of el8⟩, _, rfl, lr, _, _, rfl, rfl, el8, szl' (by rw [List.length_map]; omega), ?_⟩
    have g9 := same_updN g8 hlr (o := .lst (is.map V.int ++ [V.int (k0 : Int)]))
    have el9 := upd_same (H := H8) (a := lr) (o := .lst (is.map V.int ++ [V.int (k0 : Int)]))
    have ec9 := (upd_ne hne (H := H8) (o := .lst (is.map V.int ++ [V.int (k0 : Int)]))).trans ec8
    have hopt : optI (some k0) = V.int (k0 : Int) := rfl
    rw [hopt]
    generalize upd H8 lr (.lst (is.map V.int ++ [V.int (k0 : Int)])) = H9 at g9 el9 ec9 ⊢
    have gE := gB.trans g9
    obtain ⟨vt, hvt, bt, rfl, hbt⟩ := paired_getL h6 ht0
    refine ⟨_, rfl, a, _, _, _, rfl, rfl, Same.seqT gE h1, rfl, _, rfl, ps, xs, _, _, rfl, rfl, gE.seq h3, atI_nat hvt, bt, _, _, _, rfl, rfl, Same.seqT gE hbt, rfl, ?_⟩
    refine ⟨g9, hj, t.2.2.2, is ++ [(k0 : Int)], _, _, _, rfl, by rw [el9, List.map_append]; rfl, ec9, by rw [List.length_append, hisl]; rfl, e3, ?_⟩
    rw [hway, way_cons hk0, e4, List.append_assoc]; rfl
  rintro σ H6 ⟨g6, _, r, is, x7, x8, x9, rfl, el6, _, hisl, hgr6, hway⟩
  rw [List.drop_length] at hgr6 hway
  rw [wayGo] at hway
  rw [goes] at hgr6
  have hrE : r ∈ endsI s := of_decide_eq_true hgr6
  rw [List.append_nil] at hway
  have gE := gB.trans g6
  refine ⟨_, rfl, _, rfl, _, rfl, a, _, _, _, rfl, rfl, Same.seqT gE h1, rfl, _, rfl, szl (by simp), fun l1 hl1 => ?_⟩
  have gn := same_new hl1 (.lst [V.int r])
  have en := upd_same (H := H6) (a := l1) (o := .lst [V.int r])
  have el7 := gn _ _ el6
  have g7 := gE.trans gn
  generalize upd H6 l1 (.lst [V.int r]) = H7 at en el7 g7 ⊢
  refine ⟨pe, l1, s.ends, [r], rfl, MkL.mono g7 ⟨xe, h4, h7⟩, SqL.of en, hel, by simp, fun H8 g8 => ?_⟩
  rw [firstIn_P (p := fun m => decide (m = r)) (fun y => by simp)]
  obtain ⟨ie, hie⟩ := firstP_some (p := fun m => decide (m = r)) (endsI s) 0 hrE (decide_eq_true rfl)
  have hie2 : firstP (fun m => decide (m = r)) (s.ends.map (·.1)) 0 = some ie := hie
  rw [hie2]
  refine ⟨(by show 3 ≤ sizeLine; decide), fun pw hpw => ?_⟩
  have gw := same_new hpw (.tup [V.int (i : Int), V.ref lr, V.int (ie : Int)])
  have hgd : (s.begins.map (·.1)).getD i 0 = m.1 := by rw [List.getD_eq_getElem?_getD, List.getElem?_map, hm]; rfl
  have hfw : fwS s x = some ⟨(i : Int), is, (ie : Int)⟩ := by
    unfold fwS
    rw [hf]
    show some (Wy.mk _ _ _) = _
    rw [hgd, hway, hie]; rfl
  exact qs _ hfw _ _ ((g7.trans g8).trans gw) ⟨pw, lr, rfl, hlr0, SqT.of upd_same, gw _ _ (g8 _ _ el7)⟩

theorem sc_law_cell_at : FnScope ["_law_script", "_law_k"] ["_law_script", "_law_k"] (defScope s_law_cell_at) := ⟨rfl, rfl, rfl, by decide +kernel, rfl, by decide +kernel, by decide +kernel⟩
theorem ok_law_cell_at (B : Bi mg) {c_NoWay : Addr} (XB : Xb K mg c_NoWay)  {f : Addr} {fd : FuncData} (F : Fun K "_law_cell_at" "_law_cell_at" s_law_cell_at f fd) : FnOk P w K mg base CX0 1 f fd ["_law_script", "_law_k"] (spCell K) := by
  refine F.ok sc_law_cell_at (fun vs H Q E h => ?_) (fun cdv A outer s H vs Q E hr h => ?_)
  · obtain ⟨a, ns, k, rfl, _⟩ := h; rfl
  obtain ⟨a, ns, k, rfl, hS, hk, q⟩ := h
  refine ⟨_, (pss_cons (ps_if (pt_cmpR op_lt (pv 1) (pe_callB (kLen (K := K)) (by rfl) B.len bt_len (pa_cons (pv 0) pa_nil)) (nomark _)) (pss_one (ps_ret (pe_ix (kIx (K := K) rIxL ix_list) (pv 0) (pv 1) (by intro _ _; rfl)))) pss_nil)
      (pss_one (ps_ret pe_int))), ?_⟩
  refine ⟨_, rfl, _, rfl, a, _, rfl, .inl hS, _, _, rfl, rfl, _, rfl, ?_⟩
  rw [List.length_map]
  refine iteDd (fun c => ?_) (fun c => ?_)
  · obtain ⟨v, h1, h2⟩ := at_some (xs := ns) hk c
    refine ⟨_, rfl, _, rfl, a, _, _, .int v, rfl, rfl, hS, ?_, ?_⟩
    · obtain ⟨j, rfl⟩ := Int.eq_ofNat_of_zero_le hk
      exact atI_nat (by rw [List.getElem?_map]; rw [Int.toNat_natCast] at h2; rw [h2]; rfl)
    · have e : cellAt ns k = v := by unfold cellAt; rw [if_pos c, h2]; rfl
      rw [← e]; exact q
  · have e : cellAt ns k = 0 := by unfold cellAt; rw [if_neg c]
    rw [e] at q
    exact q

theorem sc_law_digits_at : FnScope ["_law_script", "_law_k", "_law_cell", "_law_number"] ["_law_script", "_law_k"] (defScope s_law_digits_at) := ⟨rfl, rfl, rfl, by decide +kernel, rfl, by decide +kernel, by decide +kernel⟩
theorem ok_law_digits_at (B : Bi mg) {c_NoWay : Addr} (XB : Xb K mg c_NoWay) (C_law_cell_at : Cal P w K mg base "_law_cell_at" ["_law_script", "_law_k"] 1 (spCell K)) {f : Addr} {fd : FuncData} (F : Fun K "_law_digits_at" "_law_digits_at" s_law_digits_at f fd) : FnOk P w K mg base CX0 2 f fd ["_law_script", "_law_k"] (spDigits K) := by
  refine F.ok sc_law_digits_at (fun vs H Q E h => ?_) (fun cdv A outer s H vs Q E hr h => ?_)
  · obtain ⟨a, ns, k, rfl, _⟩ := h; rfl
  obtain ⟨a, ns, k, rfl, hS, hk, q⟩ := h
  refine ⟨_, (pss_cons (ps_set (i := 2) sc_law_digits_at.nd rfl (Or.inl rfl) (pe_fn C_law_cell_at hr (by decide : 1 ≤ 1) (by rfl) (pa_cons (pv 0) (pa_cons (pv 1) pa_nil))))
      (pss_cons (ps_if (pt_cmpR op_eq (pe_op op_mod (pe_op op_fdiv (pe_fn C_law_cell_at hr (by decide : 1 ≤ 1) (by rfl) (pa_cons (pv 0) (pa_cons pe_int pa_nil))) pe_int) pe_int) pe_int (nomark _)) (pss_one (ps_ret (pv 2))) pss_nil)
      (pss_cons (ps_set (i := 3) sc_law_digits_at.nd rfl (Or.inl rfl) (pe_abs (pe_op op_mod (pe_op op_add (pe_op op_add (pe_op op_mul (pv 2) pe_int) (pe_op op_mul (pv 1) pe_int)) pe_int) pe_int)))
      (pss_cons (ps_set (i := 3) sc_law_digits_at.nd rfl (Or.inl rfl) (pe_abs (pe_op op_mod (pe_op op_mul (pv 3) (pv 3)) pe_int)))
      (pss_one (ps_ret (pe_op op_add (pe_op op_mul (pv 3) pe_int) (pe_op op_mod (pe_op op_mul (pv 3) (pv 3)) pe_int)))))))), ?_⟩
  refine ⟨_, rfl, _, rfl, a, ns, k, rfl, hS, hk, ?_⟩
  refine ⟨_, rfl, a, ns, 0, rfl, hS, (by decide), _, _, rfl, rfl, ⟨by decide, by decide⟩, _, _, rfl, rfl, pz, rfl, _, rfl, ?_⟩
  refine iteDd (fun c => ?_) (fun c => ?_)
  · refine ⟨_, rfl, q _⟩
  refine ⟨fun v H' => H = H' ∧ isNum 0 2147483647 v, ⟨_, rfl, _, _, rfl, rfl, .inr ⟨by decide, by decide⟩, _, rfl, _, _, rfl, rfl, .inr ⟨by decide, by decide⟩, _, _, rfl, rfl, _, _, rfl, rfl, _, _, rfl, rfl, pz, rfl, _, rfl, by omega, by omega⟩, ?_⟩
  rintro _ _ ⟨rfl, n, rfl, h0, h1⟩
  refine ⟨fun v H' => H = H' ∧ isNum 0 2147483647 v, ⟨_, rfl, _, rfl, _, _, rfl, rfl, .inl ⟨by omega, by omega⟩, _, _, rfl, rfl, pz, rfl, _, rfl, by omega, by omega⟩, ?_⟩
  rintro _ _ ⟨rfl, m, rfl, h2, h3⟩
  refine ⟨_, rfl, _, _, rfl, rfl, .inr ⟨by decide, by decide⟩, _, rfl, _, rfl, _, _, rfl, rfl, .inl ⟨by omega, by omega⟩, _, _, rfl, rfl, pz, _, _, rfl, rfl, q _⟩

theorem sc_law_word : FnScope ["_law_cell", "_law_size", "_law_number", "_law_word_here", "_law_k"] ["_law_cell"] (defScope s_law_word) := ⟨rfl, rfl, rfl, by decide +kernel, rfl, by decide +kernel, by decide +kernel⟩
theorem ok_law_word (B : Bi mg) {c_NoWay : Addr} (XB : Xb K mg c_NoWay)  {f : Addr} {fd : FuncData} (F : Fun K "_law_word" "_law_word" s_law_word f fd) : FnOk P w K mg base CX0 1 f fd ["_law_cell"] (spWord) := by
  refine F.ok sc_law_word (fun vs H Q E h => ?_) (fun cdv A outer s H vs Q E hr h => ?_)
  · obtain ⟨a, rfl, _⟩ := h; rfl
  obtain ⟨c, rfl, q⟩ := h
  refine ⟨_, (pss_cons (ps_set (i := 1) sc_law_word.nd rfl (Or.inl rfl) (pe_op op_mod (pv 0) pe_int))
      (pss_mid (ps_if (pt_cmpR op_eq (pe_op op_mod (pv 0) pe_int) pe_int (nomark _)) (pss_one (ps_set (i := 1) sc_law_word.nd rfl (Or.inl rfl) pe_int)) pss_nil)
      (pss_cons (ps_set (i := 2) sc_law_word.nd rfl (Or.inl rfl) (pe_op op_fdiv (pv 0) pe_int))
      (pss_cons (ps_set (i := 3) sc_law_word.nd rfl (Or.inl rfl) pe_str)
      (pss_cons (ps_for PassesOwn.never (by rfl) (pi_range1 (by rfl) B.range (pa_cons (pv 1) pa_nil)) (pg_name (i := 4) sc_law_word.nd rfl (Or.inl rfl)) (pss_cons (ps_set (i := 3) sc_law_word.nd rfl (Or.inl rfl) (pe_op op_add_str (pv 3) (pe_ix ix_str pe_str (pe_op op_mod (pv 2) pe_int) (by intro _ _; rfl))))
      (pss_one (ps_set (i := 2) sc_law_word.nd rfl (Or.inl rfl) (pe_op op_fdiv (pv 2) pe_int)))))
      (pss_one (ps_ret (pv 3)))))))), ?_⟩
  refine ⟨_, rfl, _, _, rfl, rfl, pz, ?_⟩
  refine ⟨fun σ H' => H = H' ∧ ∃ n : Int, 0 ≤ n ∧ n ≤ 40 ∧ σ = [some (.int c), some (.int n), none, none, none], ?_, ?_⟩
  · refine ⟨_, rfl, _, _, rfl, rfl, pz, rfl, _, rfl, ?_⟩
    refine iteDd (fun _ => ?_) (fun _ => ?_)
    · exact ⟨rfl, _, by omega, by omega, rfl⟩
    · exact ⟨rfl, _, by omega, by omega, rfl⟩
  rintro σ H' ⟨rfl, n, h0, h1, rfl⟩
  refine ⟨_, rfl, _, _, rfl, rfl, ⟨by decide, by decide⟩, ?_⟩
  have g1 := Same.refl H
  have hz : ("abz" : Str).length = 3 := by decide +kernel
  have hzl : ∀ c ∈ cl ("abz" : Str), 97 ≤ c ∧ c ≤ 122 := by decide +kernel
  refine ⟨_, rfl, _, rfl, by omega, by omega, ?_⟩
  
  refine for_range (fun i σ H' => H = H' ∧ ∃ (r : Int) (x : Str) (y : Option V), x.length = i ∧ (∀ c ∈ cl x, 97 ≤ c ∧ c ≤ 122) ∧ σ = [some (.int c), some (.int n), some (.int r), some (.str x), y]) ⟨rfl, _, "", _, rfl, cl_nil, rfl⟩ ?_ ?_
  · rintro i σ H' hi ⟨rfl, r2, x, y, hx, hxl, rfl⟩
    obtain ⟨c', hc, hm⟩ := at_mem (xs := cl ("abz" : Str)) (i := r2 % 3) (by omega) (by rw [cl_length, hz]; omega)
    refine ⟨_, rfl, _, rfl, _, _, rfl, rfl, pz, ("abz" : Str), _, c', rfl, rfl, szl (by omega), hc, _, _, rfl, rfl, szl (by rw [hx, one_len]; omega), ?_⟩
    refine ⟨_, rfl, _, _, rfl, rfl, ⟨by decide, by decide⟩, ?_⟩
    refine ⟨rfl, _, _, _, ?_, ?_, rfl⟩
    · rw [len_app, hx]; rfl
    · intro c1 h1
      rw [cl_append] at h1
      rcases List.mem_append.mp h1 with h1 | h1
      · exact hxl c1 h1
      · rw [cl_one, List.mem_singleton] at h1
        subst h1; exact hzl c1 hm
  · rintro σ H' ⟨rfl, r2, x, y, hx, hxl, rfl⟩
    refine ⟨_, rfl, ?_⟩
    exact q x _ ⟨by omega, hxl⟩ g1

theorem sc_law_scribe : FnScope ["_law_script", "_law_at", "_law_plain", "_law_first_here", "_law_signs", "_law_rooms", "_law_begins", "_law_steps", "_law_ends", "_law_k", "_law_number", "_law_way", "_law_room", "_law_sign", "_law_word_here", "_law_step"] ["_law_script", "_law_at", "_law_plain"] (defScope s_law_scribe) := ⟨rfl, rfl, rfl, by decide +kernel, rfl, by decide +kernel, by decide +kernel⟩
theorem ok_law_scribe (B : Bi mg) {c_NoWay : Addr} (XB : Xb K mg c_NoWay) (C_law_cell_at : Cal P w K mg base "_law_cell_at" ["_law_script", "_law_k"] 1 (spCell K)) (C_law_digits_at : Cal P w K mg base "_law_digits_at" ["_law_script", "_law_k"] 2 (spDigits K)) (C_law_word : Cal P w K mg base "_law_word" ["_law_cell"] 1 (spWord)) {f : Addr} {fd : FuncData} (F : Fun K "_law_scribe" "_law_scribe" s_law_scribe f fd) : FnOk P w K mg base CX0 3 f fd ["_law_script", "_law_at", "_law_plain"] (spScribe K) := by
  refine F.ok sc_law_scribe (fun vs H Q E h => ?_) (fun cdv A outer s H vs Q E hr h => ?_)
  · obtain ⟨a, ns, at_, pl, rfl, _⟩ := h; rfl
  obtain ⟨a, ns, at_, pl, rfl, hS, h63, h0, h1, q⟩ := h
  refine ⟨_, (pss_cons (ps_set (i := 3) sc_law_scribe.nd rfl (Or.inl rfl) (pe_fn C_law_cell_at hr (by decide : 1 ≤ 2) (by rfl) (pa_cons (pv 0) (pa_cons (pv 1) pa_nil))))
      (pss_cons (ps_set (i := 4) sc_law_scribe.nd rfl (Or.inl rfl) (pe_abs (pe_ix (kIx (K := K) rPick ix_pick) (pe_lst (pa_cons pe_str (pa_cons pe_str (pa_cons pe_str (pa_cons pe_str (pa_cons pe_str pa_nil)))))) (pe_op op_mod (pv 3) pe_int) (by intro _ _; rfl))))
      (pss_cons (ps_set (i := 5) sc_law_scribe.nd rfl (Or.inl rfl) (pe_abs (pe_op op_mod (pe_op op_fdiv (pv 3) pe_int) (pe_ix (kIx (K := K) rPick ix_pick) (pe_lst (pa_cons pe_int (pa_cons pe_int pa_nil))) (pe_callTy call_int1 (by rfl) B.int bt_int (pa_cons (pe_not (pv 2)) pa_nil)) (by intro _ _; rfl)))))
      (pss_cons (ps_set (i := 6) sc_law_scribe.nd rfl (Or.inl rfl) (pe_lst pa_nil))
      (pss_cons (ps_set (i := 7) sc_law_scribe.nd rfl (Or.inl rfl) (pe_lst pa_nil))
      (pss_cons (ps_set (i := 8) sc_law_scribe.nd rfl (Or.inl rfl) (pe_lst pa_nil))
      (pss_cons (ps_for PassesOwn.never (by rfl) (pi_range2 (by rfl) B.range (pa_cons (pe_op op_add (pv 1) pe_int) (pa_cons (pe_callB (call_min2 (by rfl)) (by rfl) B.min bt_min (pa_cons (pe_op op_add (pv 1) pe_int) (pa_cons (pe_callB (kLen (K := K)) (by rfl) B.len bt_len (pa_cons (pv 0) pa_nil)) pa_nil))) pa_nil))) (pg_name (i := 9) sc_law_scribe.nd rfl (Or.inl rfl)) (pss_cons (ps_set (i := 10) sc_law_scribe.nd rfl (Or.inl rfl) (pe_abs (pe_fn C_law_digits_at hr (by decide : 2 ≤ 2) (by rfl) (pa_cons (pv 0) (pa_cons (pv 9) pa_nil)))))
      (pss_cons (ps_set (i := 11) sc_law_scribe.nd rfl (Or.inl rfl) (pe_op op_mod (pv 10) pe_int))
      (pss_cons (ps_set (i := 12) sc_law_scribe.nd rfl (Or.inr rfl) (pe_abs (pe_op op_mod (pe_op op_fdiv (pv 10) pe_int) (pe_callB (call_max2 (by rfl)) (by rfl) B.max bt_max (pa_cons pe_int (pa_cons (pv 5) pa_nil))))))
      (pss_cons (ps_set (i := 10) sc_law_scribe.nd rfl (Or.inl rfl) (pe_abs (pe_op op_fdiv (pe_op op_fdiv (pv 10) pe_int) (pe_callB (call_max2 (by rfl)) (by rfl) B.max bt_max (pa_cons pe_int (pa_cons (pv 5) pa_nil))))))
      (pss_cons (ps_set (i := 13) sc_law_scribe.nd rfl (Or.inl rfl) (pe_abs (pe_ix ix_str (pv 4) (pe_op op_mod (pv 10) (pe_callB call_len_str (by rfl) B.len bt_len (pa_cons (pv 4) pa_nil))) (by intro _ _; rfl))))
      (pss_cons (ps_set (i := 10) sc_law_scribe.nd rfl (Or.inl rfl) (pe_abs (pe_op op_fdiv (pv 10) (pe_callB call_len_str (by rfl) B.len bt_len (pa_cons (pv 4) pa_nil)))))
      (pss_cons (ps_set (i := 14) sc_law_scribe.nd rfl (Or.inl rfl) (pe_fn C_law_word hr (by decide : 1 ≤ 2) (by rfl) (pa_cons (pe_op op_fdiv (pv 10) (pe_callB (call_max2 (by rfl)) (by rfl) B.max bt_max (pa_cons pe_int (pa_cons (pv 5) pa_nil)))) pa_nil)))
      (pss_cons (ps_set (i := 15) sc_law_scribe.nd rfl (Or.inr rfl) (pe_tup (pa_cons (pv 12) (pa_cons (pv 13) (pa_cons (pv 14) (pa_cons (pe_op op_mod (pv 10) (pe_callB (call_max2 (by rfl)) (by rfl) B.max bt_max (pa_cons pe_int (pa_cons (pv 5) pa_nil)))) pa_nil))))))
      (pss_mid (ps_if (pt_abs (PW.pt (pw_and (pt_cmpR op_gt (pv 5) pe_int (nomark _)) (pw_and (pt_cmpR op_lt (pv 11) pe_int (nomark _)) (pw_and1 (pt_cmpR (kOp (K := K) (rInD · true) (op_notInD hr.units)) (pv 15) (pv 7) rfl)))))) (pss_one (ps_if (pt_abs (PW.pt (pw_or (pt_not (pt_val (pv 2))) (pw_or1 (pt_cmpR op_eq (pe_callB (kLen (K := K)) (by rfl) B.len bt_len (pa_cons (pe_comp rfl (blk_mk (N' := ["_law_one", "_law_step"]) (js := [none, some 15]) rfl (by decide +kernel) rfl (by decide +kernel) rfl rfl) (kPI (K := K) (fun k => iList k _) (pi_list (pv 7))) (fun _ _ _ _ _ => (pg_name (i := 0) (show List.Nodup (["_law_one", "_law_step"] : List Str) by decide +kernel) rfl (Or.inl rfl))) (fun _ _ _ _ _ => (pf_one (pt_cmpR (kOp (K := K) rEqD (op_eqD hr.units)) (pe_slice (kSl (K := K) rSlT sl_tup) (pv 0) po_none (po_some pe_int)) (pe_slice (kSl (K := K) rSlT sl_tup) (pv 1) po_none (po_some pe_int)) (nomark _)))) (fun _ _ _ _ _ => (pv 0))) pa_nil)) pe_int (nomark _)))))) (pss_one (ps_expr (kPE (K := K) (fun k => tBM k _ _ _ _) (pe_bm PySem.F.plainAttrs_list PySem.F.slot_list_append PySem.F.type_list_append mt_append (pv 7) (pa_cons (pv 15) pa_nil))))) pss_nil)) pss_nil)
      (pss_mid (ps_if (pt_abs (PW.pt (pw_and (pt_cmpR op_gt (pv 5) pe_int (nomark _)) (pw_and (pt_cmpR op_eq (pv 11) pe_int (nomark _)) (pw_and1 (pt_cmpR (kOp (K := K) (rInD · true) (op_notInD hr.units)) (pe_tup (pa_cons (pv 12) (pa_cons (pv 14) pa_nil))) (pv 8) rfl)))))) (pss_one (ps_if (pt_abs (PW.pt (pw_or (pt_not (pt_val (pv 2))) (pw_or1 (pt_cmpR op_eq (pe_callB (kLen (K := K)) (by rfl) B.len bt_len (pa_cons (pe_comp rfl (blk_mk (N' := ["_law_one", "_law_room"]) (js := [none, some 12]) rfl (by decide +kernel) rfl (by decide +kernel) rfl rfl) (kPI (K := K) (fun k => iList k _) (pi_list (pv 8))) (fun _ _ _ _ _ => (pg_name (i := 0) (show List.Nodup (["_law_one", "_law_room"] : List Str) by decide +kernel) rfl (Or.inl rfl))) (fun _ _ _ _ _ => (pf_one (pt_cmpR op_eq (pe_ix (kIx (K := K) rIxT ix_tup) (pv 0) pe_int (by intro _ _; rfl)) (pv 1) (nomark _)))) (fun _ _ _ _ _ => (pv 0))) pa_nil)) pe_int (nomark _)))))) (pss_one (ps_expr (kPE (K := K) (fun k => tBM k _ _ _ _) (pe_bm PySem.F.plainAttrs_list PySem.F.slot_list_append PySem.F.type_list_append mt_append (pv 8) (pa_cons (pe_tup (pa_cons (pv 12) (pa_cons (pv 14) pa_nil))) pa_nil))))) pss_nil)) pss_nil)
      (pss_one (ps_if (pt_abs (PW.pt (pw_and (pt_cmpR op_gt (pv 5) pe_int (nomark _)) (pw_and (pt_cmpR op_eq (pv 11) pe_int (nomark _)) (pw_and (pt_cmpR (kOp (K := K) (rInD · true) (op_notInD hr.units)) (pe_tup (pa_cons (pv 12) (pa_cons (pv 14) pa_nil))) (pv 6) rfl) (pw_and1 (PW.pt (pw_or (pt_cmpR op_eq (pe_callB (kLen (K := K)) (by rfl) B.len bt_len (pa_cons (pv 6) pa_nil)) pe_int (nomark _)) (pw_or1 (pt_not (pt_val (pv 2)))))))))))) (pss_one (ps_expr (kPE (K := K) (fun k => tBM k _ _ _ _) (pe_bm PySem.F.plainAttrs_list PySem.F.slot_list_append PySem.F.type_list_append mt_append (pv 6) (pa_cons (pe_tup (pa_cons (pv 12) (pa_cons (pv 14) pa_nil))) pa_nil))))) pss_nil)))))))))))))
      (pss_mid (ps_if (pt_abs (PW.pt (pw_and (pt_cmpR op_gt (pv 5) pe_int (nomark _)) (pw_and (pt_cmpR op_eq (pe_callB (kLen (K := K)) (by rfl) B.len bt_len (pa_cons (pv 6) pa_nil)) pe_int (nomark _)) (pw_and1 (pt_cmpR op_gt (pe_op op_mod (pe_op op_fdiv (pv 3) pe_int) pe_int) pe_int (nomark _))))))) (pss_one (ps_expr (kPE (K := K) (fun k => tBM k _ _ _ _) (pe_bm PySem.F.plainAttrs_list PySem.F.slot_list_append PySem.F.type_list_append mt_append (pv 6) (pa_cons (pe_tup (pa_cons (pe_op op_mod (pe_op op_fdiv (pv 3) pe_int) (pv 5)) (pa_cons (pe_fn C_law_word hr (by decide : 1 ≤ 2) (by rfl) (pa_cons (pe_op op_fdiv (pv 3) pe_int) pa_nil)) pa_nil))) pa_nil))))) pss_nil)
      (pss_mid (ps_if (pt_abs (PW.pt (pw_and (pt_cmpR op_gt (pv 5) pe_int (nomark _)) (pw_and (pt_cmpR op_eq (pe_callB (kLen (K := K)) (by rfl) B.len bt_len (pa_cons (pv 8) pa_nil)) pe_int (nomark _)) (pw_and1 (pt_cmpR op_gt (pe_op op_mod (pe_op op_fdiv (pv 3) pe_int) pe_int) pe_int (nomark _))))))) (pss_one (ps_expr (kPE (K := K) (fun k => tBM k _ _ _ _) (pe_bm PySem.F.plainAttrs_list PySem.F.slot_list_append PySem.F.type_list_append mt_append (pv 8) (pa_cons (pe_tup (pa_cons (pe_op op_mod (pe_op op_fdiv (pv 3) pe_int) (pv 5)) (pa_cons (pe_fn C_law_word hr (by decide : 1 ≤ 2) (by rfl) (pa_cons (pe_op op_fdiv (pv 3) pe_int) pa_nil)) pa_nil))) pa_nil))))) pss_nil)
      (pss_one (ps_ret (pe_tup (pa_cons (pv 4) (pa_cons (pv 5) (pa_cons (pv 6) (pa_cons (pv 7) (pa_cons (pv 8) pa_nil))))))))))))))))), ?_⟩
  refine ⟨_, rfl, _, rfl, a, ns, at_, rfl, hS, h0, ?_⟩
  generalize cellAt ns at_ = fi
  refine ⟨fun v H' => Same H H' ∧ isSgn v, ⟨szl (by simp), fun p hp => ⟨_, rfl, _, _, rfl, rfl, pz, p, _, _, rfl, rfl, SqL.of upd_same, by omega, (by show fi % 5 < 5; omega), isSgn, ?_, fun v hv => ⟨same_new hp _, hv⟩⟩⟩, ?_⟩
  · intro v hv
    simp only [List.mem_cons, List.not_mem_nil, or_false] at hv
    rcases hv with rfl | rfl | rfl | rfl | rfl <;> exact ⟨_, rfl, by unfold SgnOk; decide +kernel⟩
  rintro _ H1 ⟨g1, g, rfl, hg1, hg2, hg3, hg4⟩
  refine ⟨fun v H' => Same H1 H' ∧ isNum 0 14 v, ⟨_, rfl, _, _, rfl, rfl, ⟨by decide, by decide⟩, szl (by simp), fun p hp => ⟨_, rfl, _, rfl, .inr ⟨_, rfl, p, _, _, rfl, rfl, SqL.of upd_same, ?_, ?_, isNum 5 9, ?_, ?_⟩⟩⟩, ?_⟩
  · split <;> decide
  · split <;> decide
  · intro v hv
    simp only [List.mem_cons, List.not_mem_nil, or_false] at hv
    rcases hv with rfl | rfl <;> exact ⟨_, rfl, by decide, by decide⟩
  · rintro _ ⟨m, rfl, h5, h9⟩
    have hm : 0 < m := by omega
    have hm1 := Int.emod_nonneg (fi / 5) (show m ≠ 0 by omega)
    have hm2 := Int.emod_lt_of_pos (fi / 5) hm
    exact ⟨_, _, rfl, rfl, hm, same_new hp _, _, rfl, hm1, by omega⟩
  rintro _ H2 ⟨g2, r, rfl, hr0, hr1⟩
  
  refine ⟨szl (by simp), fun pb hpb => ?_⟩
  refine ⟨szl (by simp), fun ps hps => ?_⟩
  refine ⟨szl (by simp), fun pe hpe => ?_⟩
  have G0 : Same H H2 := g1.trans g2
  have hps' : H2 ps = none := (same_new hpb _).free hps
  have hpe' : upd H2 pb (.lst []) pe = none := (same_new hps _).free hpe
  have AP : Apart H pb ps pe := ⟨G0.free hpb, G0.free hps', G0.free ((same_new hpb _).free hpe'), ne_of_none upd_same hps, ne_of_none upd_same hpe', ne_of_none upd_same hpe⟩
  have HI0 : HI K H pb ps pe pl g r 0 (upd (upd (upd H2 pb (.lst [])) ps (.lst [])) pe (.lst [])) :=
    ⟨[], [], [], [], [], [], ((G0.trans (same_new hpb _)).trans (same_new hps _)).trans (same_new hpe _), by rw [upd_ne AP.be, upd_ne AP.bs]; exact upd_same, by rw [upd_ne AP.se]; exact upd_same, upd_same, .nil, .nil, .nil,
      ⟨Nat.zero_le _, Nat.zero_le _, Nat.zero_le _, by simp, by simp, by simp, by simp, by simp, by simp, fun _ => Nat.zero_le _, fun _ => by simp, fun _ => by simp⟩⟩
  generalize upd (upd (upd H2 pb (.lst [])) ps (.lst [])) pe (.lst []) = H3 at HI0 ⊢
  have hS3 : SqL K H3 a (ns.map V.int) := by obtain ⟨_, _, _, _, _, _, z, _⟩ := HI0; exact z.seq hS
  refine ⟨_, rfl, _, _, rfl, rfl, _, rfl, _, _, rfl, rfl, _, rfl, a, _, rfl, .inl hS3, _, _, rfl, _, _, rfl, ⟨?_, ?_, ?_, ?_⟩, ?_⟩
  · show -(2 ^ 62) ≤ at_ + 1; omega
  · show at_ + 1 < 2 ^ 62; omega
  · rw [List.length_map]
    show -(2 ^ 62 : Int) ≤ if (ns.length : Int) < at_ + 32 then (ns.length : Int) else at_ + 32
    split <;> omega
  · rw [List.length_map]
    show (if (ns.length : Int) < at_ + 32 then (ns.length : Int) else at_ + 32) < 2 ^ 62
    split <;> omega
  rw [List.length_map]
  have hturns : ((if (ns.length : Int) < at_ + 32 then (ns.length : Int) else at_ + 32) - (at_ + 1)).toNat ≤ 31 := by split <;> omega
  refine for_range (fun i σ H' => HI K H pb ps pe pl g r (3 * i) H' ∧ ∃ x9 x10 x11 x12 x13 x14 x15, σ = [some (.ref a), some (.int at_), some (.bl pl), some (.int fi), some (.str g), some (.int r), some (.ref pb), some (.ref ps), some (.ref pe), x9, x10, x11, x12, x13, x14, x15]) ⟨HI0, _, _, _, _, _, _, _, rfl⟩ ?_ ?_
  · rintro i σ H4 hi ⟨hI, x9, x10, x11, x12, x13, x14, x15, rfl⟩
    have hi31 : i < 31 := Nat.lt_of_lt_of_le hi hturns
    have hS4 : SqL K H4 a (ns.map V.int) := by obtain ⟨_, _, _, _, _, _, z, _⟩ := hI; exact z.seq hS
    refine ⟨fun v H' => H4 = H' ∧ ∃ n : Int, v = .int n, ⟨_, rfl, _, rfl, a, ns, _, rfl, hS4, by omega, fun n => ⟨rfl, n, rfl⟩⟩, ?_⟩
    rintro _ _ ⟨rfl, n1, rfl⟩
    refine ⟨_, rfl, _, _, rfl, rfl, pz, ?_⟩
    have hmx : 0 < (if r > 1 then r else 1) ∧ (if r > 1 then r else 1) < 1073741824 := by split <;> omega
    refine ⟨fun v H' => H4 = H' ∧ ∃ n : Int, v = .int n ∧ 0 ≤ n ∧ (0 < r → n < r), ⟨_, rfl, _, _, rfl, rfl, ⟨by decide, by decide⟩, _, rfl, _, _, rfl, _, _, rfl, rfl, hmx.1, rfl, _, rfl, modmax _ hr0⟩, ?_⟩
    rintro _ _ ⟨rfl, ro, rfl, ro0, ro1⟩
    refine ⟨fun v H' => H4 = H' ∧ ∃ n : Int, v = .int n, ⟨_, rfl, _, _, rfl, rfl, ⟨by decide, by decide⟩, _, rfl, _, _, rfl, _, _, rfl, rfl, hmx, rfl, _, rfl⟩, ?_⟩
    rintro _ _ ⟨rfl, n2, rfl⟩
    have hgl : (0 : Int) < g.length ∧ (g.length : Int) < 1073741824 := by omega
    refine ⟨fun v H' => H4 = H' ∧ ∃ c ∈ cl g, v = .str ⟨#[c]⟩, ?_, ?_⟩
    · obtain ⟨c, hc, hm⟩ := at_mem (xs := cl g) (i := n2 % (g.length : Int)) (Int.emod_nonneg _ (by omega)) (by rw [cl_length]; exact Int.emod_lt_of_pos _ hgl.1)
      exact ⟨_, rfl, _, rfl, _, rfl, g, rfl, szl (by omega), _, _, rfl, rfl, hgl.1, g, _, c, rfl, rfl, szl (by omega), hc, rfl, c, hm, rfl⟩
    rintro _ _ ⟨rfl, sg, hsg, rfl⟩
    refine ⟨fun v H' => H4 = H' ∧ ∃ n : Int, v = .int n, ⟨_, rfl, _, rfl, g, rfl, szl (by omega), _, _, rfl, rfl, hgl, rfl, _, rfl⟩, ?_⟩
    rintro _ _ ⟨rfl, n3, rfl⟩
    refine ⟨_, rfl, _, rfl, _, _, rfl, _, _, rfl, rfl, hmx, _, rfl, fun wd H5 hwd g5 => ?_⟩
    obtain ⟨to0, to1⟩ := modmax n3 hr0
    refine ⟨_, rfl, _, rfl, _, rfl, _, rfl, _, rfl, _, _, rfl, _, _, rfl, rfl, hmx.1, (by show 4 ≤ sizeLine; decide), fun t ht => ?_⟩
    dsimp only
    generalize n3 % (if r > 1 then r else 1) = to at to0 to1 ⊢
    have hI6 : HI K H pb ps pe pl g r (3 * i) (upd H5 t (.tup [.int ro, .str ⟨#[sg]⟩, .str wd, .int to])) := hI.mono (g5.trans (same_new ht _)) (Nat.le_refl _)
    have hT6 : SqT K (upd H5 t (.tup [.int ro, .str ⟨#[sg]⟩, .str wd, .int to])) t [.int ro, .str ⟨#[sg]⟩, .str wd, .int to] := SqT.of upd_same
    generalize upd H5 t (.tup [.int ro, .str ⟨#[sg]⟩, .str wd, .int to]) = H6 at hI6 hT6 ⊢
    obtain ⟨B, S, E', xb, xs, xe, i1, i2, i3, i4, i5, i6, i7, i8⟩ := hI6
    -- a step
    refine ⟨fun σ' H' => [some (.ref a), some (.int at_), some (.bl pl), some (.int fi), some (.str g), some (.int r), some (.ref pb), some (.ref ps), some (.ref pe), some (.int (at_ + 1 + (i : Int))), some (.int n3), some (.int (n1 % 6)), some (.int ro), some (.str ⟨#[sg]⟩), some (.str wd), some (.ref t)] = σ' ∧ HI K H pb ps pe pl g r (3 * i + 1) H' ∧ SqT K H' t [.int ro, .str ⟨#[sg]⟩, .str wd, .int to], ?_, ?_⟩
    · have stay : ∀ H', Same H6 H' → HI K H pb ps pe pl g r (3 * i + 1) H' := fun H' g' => HI.mono ⟨B, S, E', xb, xs, xe, i1, i2, i3, i4, i5, i6, i7, i8⟩ g' (by omega)
      refine ⟨fun b H' => H6 = H' ∧ (b = true → 0 < r ∧ (ro, (⟨#[sg]⟩ : Str), wd, to) ∉ S), ?_, ?_⟩
      · refine ⟨_, rfl, _, _, rfl, rfl, _, rfl, iteDd (fun c1 => ?_) (fun _ => ⟨rfl, fun z => nomatch z⟩)⟩
        refine ⟨_, rfl, _, _, rfl, rfl, _, rfl, iteDd (fun _ => ?_) (fun _ => ⟨rfl, fun z => nomatch z⟩)⟩
        refine ⟨_, rfl, _, rfl, dSt (ro, ⟨#[sg]⟩, wd, to), ps, xs, S.map dSt, StV.rep ⟨t, rfl, hT6⟩, rfl, SqL.of i3, reps_st i6, Nat.le_trans (deeps_map dSt 1 deep_dSt S) (by decide), _, rfl, rfl, fun z => ⟨c1, ?_⟩⟩
        have z' : (!((S.map dSt).any fun e => eqD e (dSt (ro, ⟨#[sg]⟩, wd, to)))) = true := z
        rw [any_mem dSt eqD_dSt] at z'
        simpa using z'
      · rintro b _ ⟨rfl, hb⟩
        refine iteB (fun hbt => ?_) (fun _ => ⟨rfl, stay _ (Same.refl _), hT6⟩)
        obtain ⟨hr2, hnS⟩ := hb hbt
        refine ⟨fun b H' => Same H6 H' ∧ (b = true → pl = true → ∀ t' ∈ S, ¬ (t'.1 = ro ∧ t'.2.1 = ⟨#[sg]⟩)), ?_, ?_⟩
        · refine ⟨_, rfl, _, rfl, iteB (fun hn => ⟨Same.refl _, fun _ h => by rw [h] at hn; cases hn⟩) (fun _ => ?_)⟩
          refine ⟨_, rfl, ps, rfl, ⟨xs, SqL.of i3⟩, ?_⟩
          refine comp_list (xs := xs) (fun j ys τ H' => Same H6 H' ∧ (∃ x, τ = [x, some (.ref t)]) ∧ j ≤ xs.length ∧ ys.length ≤ j ∧ (ys = [] → ∀ t' ∈ S.take j, ¬ (t'.1 = ro ∧ t'.2.1 = ⟨#[sg]⟩))) ⟨Same.refl _, ⟨_, rfl⟩, Nat.zero_le _, Nat.zero_le _, fun _ t' ht' => by simp at ht'⟩ (fun j ys τ H' z => z.1.seq (SqL.of i3)) ?_ ?_
          · rintro j x ys τ H7 hx ⟨g7, ⟨y, rfl⟩, hj, hyl, hyn⟩
            obtain ⟨t', ht', b', rfl, hb'⟩ := paired_get i6 hx
            have hjl : j < xs.length := (List.getElem?_eq_some_iff.mp hx).1
            have hb7 := (Same.grow g7).seqT hb'
            have hT7 := (Same.grow g7).seqT hT6
            have hx31 : xs.length ≤ 93 := by have := i6.length; have : S.length ≤ 3 * i := i8.ls; omega
            refine ⟨_, rfl, _, rfl, b', _, rfl, hb7, (show ¬ (0 = 0 ∧ 2 = 4) by decide), fun p1 hp1 => ?_⟩
            have hT8 := (grow_new hp1 (.tup (cutV [V.int t'.1, V.str t'.2.1, V.str t'.2.2.1, V.int t'.2.2.2] none (some 2)))).seqT hT7
            refine ⟨_, rfl, _, rfl, t, _, rfl, hT8, (show ¬ (0 = 0 ∧ 2 = 4) by decide), fun p2 hp2 => ?_⟩
            have e1 := (grow_new hp2 (.tup (cutV [V.int ro, V.str ⟨#[sg]⟩, V.str wd, V.int to] none (some 2)))).seqT (SqT.of (K := K) (upd_same (H := H7) (a := p1) (o := .tup (cutV [V.int t'.1, V.str t'.2.1, V.str t'.2.2.1, V.int t'.2.2.2] none (some 2)))))
            refine ⟨.tup [.int t'.1, .str t'.2.1], .tup [.int ro, .str ⟨#[sg]⟩], rep_tup e1 (.cons (rep_int _) (.cons (rep_str _) .nil)), rep_tup (SqT.of upd_same) (.cons (rep_int _) (.cons (rep_str _) .nil)), (by simp [deep, deeps]), _, rfl, ?_⟩
            rw [eq2]
            have g9 := (g7.trans (same_new hp1 (.tup (cutV [V.int t'.1, V.str t'.2.1, V.str t'.2.2.1, V.int t'.2.2.2] none (some 2))))).trans (same_new hp2 (.tup (cutV [V.int ro, V.str ⟨#[sg]⟩, V.str wd, V.int to] none (some 2))))
            refine iteDd (fun c => ?_) (fun c => ?_)
            · refine ⟨_, rfl, szl' (by omega), g9, ⟨_, rfl⟩, hjl, by rw [List.length_append, List.length_singleton]; omega, fun z => absurd z (by simp)⟩
            · refine ⟨g9, ⟨_, rfl⟩, hjl, by omega, fun z t'' h'' => ?_⟩
              rw [take_get ht'] at h''
              rcases List.mem_append.mp h'' with h'' | h''
              · exact hyn z t'' h''
              · rw [List.mem_singleton.mp h'']; exact c
          · rintro ys τ H7 ⟨g7, _, _, hyl, hyn⟩ p hp
            refine ⟨p, ys, rfl, .inl (SqL.of upd_same), rfl, _, rfl, g7.trans (same_new hp _), fun z _ => ?_⟩
            have hy0 : ys = [] := by
              have := of_decide_eq_true z
              injection this with this
              exact List.eq_nil_of_length_eq_zero (by omega)
            have := hyn hy0
            rw [← i6.length, List.take_length] at this
            exact this
        · rintro b H7 ⟨g7, hb7⟩
          have hT7 := (Same.grow g7).seqT hT6
          refine iteB (fun hbt2 => ?_) (fun _ => ⟨rfl, stay _ g7, hT7⟩)
          have hlx : xs.length < sizeLine := by have := i6.length; have : S.length ≤ 3 * i := i8.ls; exact szl' (by omega)
          refine ⟨_, rfl, .inl ⟨rfl, _, SqL.of (g7 _ _ i3)⟩, _, rfl, ps, xs, .ref t, rfl, rfl, g7 _ _ i3, hlx, rfl, ?_, (grow_upd (g7 _ _ i3) _).seqT hT7⟩
          exact HI.addStep AP (i1.trans g7) (g7 _ _ i2) (g7 _ _ i3) (g7 _ _ i4) (paired_mono (fun _ _ => MkV.mono (Same.grow g7)) i5) (paired_mono (fun _ _ => StV.mono (Same.grow g7)) i6) (paired_mono (fun _ _ => MkV.mono (Same.grow g7)) i7)
            (i8.step ro0 (ro1 hr2) ⟨sg, hsg, rfl⟩ hwd to0 (to1 hr2) hnS (hb7 hbt2)) ⟨t, rfl, hT7⟩
    clear i1 i2 i3 i4 i5 i6 i7 i8 B S E' xb xs xe
    rintro _ H7 ⟨rfl, hI7, hT7⟩
    obtain ⟨B, S, E', xb, xs, xe, i1, i2, i3, i4, i5, i6, i7, i8⟩ := hI7
    -- an end
    refine ⟨fun σ' H' => [some (.ref a), some (.int at_), some (.bl pl), some (.int fi), some (.str g), some (.int r), some (.ref pb), some (.ref ps), some (.ref pe), some (.int (at_ + 1 + (i : Int))), some (.int n3), some (.int (n1 % 6)), some (.int ro), some (.str ⟨#[sg]⟩), some (.str wd), some (.ref t)] = σ' ∧ HI K H pb ps pe pl g r (3 * i + 2) H', ?_, ?_⟩
    · have stay : ∀ H', Same H7 H' → HI K H pb ps pe pl g r (3 * i + 2) H' := fun H' g' => HI.mono ⟨B, S, E', xb, xs, xe, i1, i2, i3, i4, i5, i6, i7, i8⟩ g' (by omega)
      refine ⟨fun b H' => Same H7 H' ∧ (b = true → 0 < r ∧ (ro, wd) ∉ E'), ?_, ?_⟩
      · refine ⟨_, rfl, _, _, rfl, rfl, _, rfl, iteDd (fun c1 => ?_) (fun _ => ⟨Same.refl _, fun z => nomatch z⟩)⟩
        refine ⟨_, rfl, rfl, _, rfl, iteDd (fun _ => ?_) (fun _ => ⟨Same.refl _, fun z => nomatch z⟩)⟩
        refine ⟨_, rfl, _, rfl, (by show 2 ≤ sizeLine; decide), fun p hp => ?_⟩
        have gp := same_new hp (.tup [V.int ro, V.str wd])
        refine ⟨_, rfl, dMk (ro, wd), pe, xe, E'.map dMk, MkV.rep ⟨p, rfl, SqT.of upd_same⟩, rfl, SqL.of (gp _ _ i4), notIn_mk (m := (ro, wd)) (paired_mono (fun _ _ => MkV.mono (Same.grow gp)) i7), Nat.le_trans (deeps_map dMk 1 deep_dMk E') (by decide), _, rfl, gp, fun z => ⟨c1, ?_⟩⟩
        have z' : (!((E'.map dMk).any fun e => eqD e (dMk (ro, wd)))) = true := z
        rw [any_mem dMk eqD_dMk] at z'
        simpa using z'
      · rintro b H8 ⟨g8, hb⟩
        refine iteB (fun hbt => ?_) (fun _ => ⟨rfl, stay _ g8⟩)
        obtain ⟨hr2, hnE⟩ := hb hbt
        have i7' : Paired (MkV K H8) E' xe := paired_mono (fun _ _ => MkV.mono (Same.grow g8)) i7
        refine ⟨fun b H' => Same H8 H' ∧ (b = true → pl = true → ∀ m ∈ E', m.1 ≠ ro), ?_, ?_⟩
        · refine ⟨_, rfl, _, rfl, iteB (fun hn => ⟨Same.refl _, fun _ h => by rw [h] at hn; cases hn⟩) (fun _ => ?_)⟩
          refine ⟨_, rfl, pe, rfl, ⟨xe, SqL.of (g8 _ _ i4)⟩, ?_⟩
          refine comp_list (xs := xe) (fun j ys τ H' => H8 = H' ∧ (∃ x, τ = [x, some (.int ro)]) ∧ j ≤ xe.length ∧ ys.length ≤ j ∧ (ys = [] → ∀ m ∈ E'.take j, m.1 ≠ ro)) ⟨rfl, ⟨_, rfl⟩, Nat.zero_le _, Nat.zero_le _, fun _ m hm => by simp at hm⟩ (fun j ys τ H' z => z.1 ▸ SqL.of (g8 _ _ i4)) ?_ ?_
          · rintro j x ys τ _ hx ⟨rfl, ⟨y, rfl⟩, hj, hyl, hyn⟩
            obtain ⟨m, hm, b', rfl, hb'⟩ := paired_get i7' hx
            have hjl : j < xe.length := (List.getElem?_eq_some_iff.mp hx).1
            have hx31 : xe.length ≤ 94 := by have := i7.length; have : E'.length ≤ 3 * i + 1 := i8.le; omega
            refine ⟨_, rfl, _, _, _, _, rfl, rfl, hb', rfl, _, rfl, rfl, _, rfl, ?_⟩
            refine iteDd (fun c => ?_) (fun c => ?_)
            · exact ⟨_, rfl, szl' (by omega), rfl, ⟨_, rfl⟩, hjl, by rw [List.length_append, List.length_singleton]; omega, fun z => absurd z (by simp)⟩
            · refine ⟨rfl, ⟨_, rfl⟩, hjl, by omega, fun z m' h' => ?_⟩
              rw [take_get hm] at h'
              rcases List.mem_append.mp h' with h' | h'
              · exact hyn z m' h'
              · rw [List.mem_singleton.mp h']; exact fun e => c (by rw [e])
          · rintro ys τ _ ⟨rfl, _, _, hyl, hyn⟩ p hp
            refine ⟨p, ys, rfl, .inl (SqL.of upd_same), rfl, _, rfl, same_new hp _, fun z _ => ?_⟩
            have hy0 : ys = [] := by
              have := of_decide_eq_true z
              injection this with this
              exact List.eq_nil_of_length_eq_zero (by omega)
            have := hyn hy0
            rw [← i7.length, List.take_length] at this
            exact this
        · rintro b H9 ⟨g9, hb9⟩
          have gg := g8.trans g9
          refine iteB (fun hbt2 => ?_) (fun _ => ⟨rfl, stay _ gg⟩)
          have hlx : xe.length < sizeLine := by have := i7.length; have : E'.length ≤ 3 * i + 1 := i8.le; exact szl' (by omega)
          refine ⟨_, rfl, .inl ⟨rfl, _, SqL.of (gg _ _ i4)⟩, _, rfl, _, rfl, (by show 2 ≤ sizeLine; decide), fun p hp => ?_⟩
          have gp := gg.trans (same_new hp (.tup [V.int ro, V.str wd]))
          refine ⟨pe, xe, .ref p, rfl, rfl, gp _ _ i4, hlx, rfl, ?_⟩
          exact HI.addEnd AP (i1.trans gp) (gp _ _ i2) (gp _ _ i3) (gp _ _ i4) (paired_mono (fun _ _ => MkV.mono (Same.grow gp)) i5) (paired_mono (fun _ _ => StV.mono (Same.grow gp)) i6) (paired_mono (fun _ _ => MkV.mono (Same.grow gp)) i7)
            (i8.end_ ro0 (ro1 hr2) hwd hnE (hb9 hbt2)) ⟨p, rfl, SqT.of upd_same⟩
    clear i1 i2 i3 i4 i5 i6 i7 i8 B S E' xb xs xe
    rintro _ H8 ⟨rfl, hI8⟩
    obtain ⟨B, S, E', xb, xs, xe, i1, i2, i3, i4, i5, i6, i7, i8⟩ := hI8
    -- a begin
    have stay : ∀ H', Same H8 H' → HI K H pb ps pe pl g r (3 * (i + 1)) H' := fun H' g' => HI.mono ⟨B, S, E', xb, xs, xe, i1, i2, i3, i4, i5, i6, i7, i8⟩ g' (by omega)
    refine ⟨fun b H' => Same H8 H' ∧ (b = true → 0 < r ∧ (ro, wd) ∉ B ∧ (pl = true → B.length = 0)), ?_, ?_⟩
    · refine ⟨_, rfl, _, _, rfl, rfl, _, rfl, iteDd (fun c1 => ?_) (fun _ => ⟨Same.refl _, fun z => nomatch z⟩)⟩
      refine ⟨_, rfl, rfl, _, rfl, iteDd (fun _ => ?_) (fun _ => ⟨Same.refl _, fun z => nomatch z⟩)⟩
      refine ⟨_, rfl, _, rfl, (by show 2 ≤ sizeLine; decide), fun p hp => ?_⟩
      have gp := same_new hp (.tup [V.int ro, V.str wd])
      refine ⟨_, rfl, dMk (ro, wd), pb, xb, B.map dMk, MkV.rep ⟨p, rfl, SqT.of upd_same⟩, rfl, SqL.of (gp _ _ i2), notIn_mk (m := (ro, wd)) (paired_mono (fun _ _ => MkV.mono (Same.grow gp)) i5), Nat.le_trans (deeps_map dMk 1 deep_dMk B) (by decide), _, rfl, iteB (fun z => ?_) (fun _ => ⟨gp, fun z => nomatch z⟩)⟩
      have z' : (!((B.map dMk).any fun e => eqD e (dMk (ro, wd)))) = true := z
      rw [any_mem dMk eqD_dMk] at z'
      have hnB : (ro, wd) ∉ B := by simpa using z'
      refine ⟨_, rfl, pb, xb, rfl, .inl (SqL.of (gp _ _ i2)), rfl, _, rfl, iteDd (fun c => ?_) (fun c => ?_)⟩
      · refine ⟨gp, fun _ => ⟨c1, hnB, fun _ => ?_⟩⟩
        injection c with c
        rw [i5.length]; omega
      · refine ⟨_, rfl, _, rfl, gp, fun hn => ⟨c1, hnB, fun h => ?_⟩⟩
        rw [h] at hn; cases hn
    · rintro b H9 ⟨g9, hb⟩
      refine iteB (fun hbt => ?_) (fun _ => ⟨stay _ g9, _, _, _, _, _, _, _, rfl⟩)
      obtain ⟨hr2, hnB, hB0⟩ := hb hbt
      have hlx : xb.length < sizeLine := by have := i5.length; have : B.length ≤ 3 * i + 2 := i8.lb; exact szl' (by omega)
      refine ⟨_, rfl, .inl ⟨rfl, _, SqL.of (g9 _ _ i2)⟩, _, rfl, _, rfl, (by show 2 ≤ sizeLine; decide), fun p hp => ?_⟩
      have gp := g9.trans (same_new hp (.tup [V.int ro, V.str wd]))
      refine ⟨pb, xb, .ref p, rfl, rfl, gp _ _ i2, hlx, ?_, _, _, _, _, _, _, _, rfl⟩
      exact HI.addBegin AP (i1.trans gp) (gp _ _ i2) (gp _ _ i3) (gp _ _ i4) (paired_mono (fun _ _ => MkV.mono (Same.grow gp)) i5) (paired_mono (fun _ _ => StV.mono (Same.grow gp)) i6) (paired_mono (fun _ _ => MkV.mono (Same.grow gp)) i7)
        (i8.begin ro0 (ro1 hr2) hwd hnB hB0) ⟨p, rfl, SqT.of upd_same⟩
  rintro σ H4 ⟨hI, x9, x10, x11, x12, x13, x14, x15, rfl⟩
  have hI : HI K H pb ps pe pl g r 93 H4 := hI.mono (Same.refl _) (by omega)
  obtain ⟨B, S, E', xb, xs, xe, i1, i2, i3, i4, i5, i6, i7, i8⟩ := hI
  refine ⟨fun σ' H' => [some (.ref a), some (.int at_), some (.bl pl), some (.int fi), some (.str g), some (.int r), some (.ref pb), some (.ref ps), some (.ref pe), x9, x10, x11, x12, x13, x14, x15] = σ' ∧ HI K H pb ps pe pl g r 94 H', ?_, ?_⟩
  · have stay : ∀ H', Same H4 H' → HI K H pb ps pe pl g r 94 H' := fun H' g' => HI.mono ⟨B, S, E', xb, xs, xe, i1, i2, i3, i4, i5, i6, i7, i8⟩ g' (by omega)
    refine ⟨fun b H' => H4 = H' ∧ (b = true → 0 < r ∧ B = []), ?_, ?_⟩
    · refine ⟨_, rfl, _, _, rfl, rfl, _, rfl, iteDd (fun c1 => ?_) (fun _ => ⟨rfl, fun z => nomatch z⟩)⟩
      refine ⟨_, rfl, pb, xb, rfl, .inl (SqL.of i2), rfl, _, rfl, iteDd (fun c => ?_) (fun _ => ⟨rfl, fun z => nomatch z⟩)⟩
      refine ⟨_, rfl, _, _, rfl, rfl, ⟨by decide, by decide⟩, _, _, rfl, rfl, pz, _, _, rfl, rfl, _, rfl, rfl, fun _ => ⟨c1, ?_⟩⟩
      injection c with c
      exact List.eq_nil_of_length_eq_zero (by rw [i5.length]; omega)
    · rintro b _ ⟨rfl, hb⟩
      refine iteB (fun hbt => ?_) (fun _ => ⟨rfl, stay _ (Same.refl _)⟩)
      obtain ⟨hr2, rfl⟩ := hb hbt
      have m0 := Int.emod_nonneg (fi / 360) (show r ≠ 0 by omega)
      have m1 := Int.emod_lt_of_pos (fi / 360) hr2
      have hlx : xb.length < sizeLine := by rw [← i5.length]; exact szl' (by decide)
      refine ⟨_, rfl, .inl ⟨rfl, _, SqL.of i2⟩, _, rfl, _, _, rfl, rfl, ⟨by decide, by decide⟩, _, rfl, _, _, rfl, rfl, hr2, _, rfl, _, _, rfl, rfl, ⟨by decide, by decide⟩, _, rfl, fun wd H5 hwd g5 => ⟨(by show 2 ≤ sizeLine; decide), fun p hp => ?_⟩⟩
      dsimp only at hp ⊢
      have gp := g5.trans (same_new hp (.tup [V.int (fi / 360 % r), V.str wd]))
      refine ⟨pb, xb, .ref p, rfl, rfl, gp _ _ i2, hlx, rfl, ?_⟩
      exact HI.addBegin AP (i1.trans gp) (gp _ _ i2) (gp _ _ i3) (gp _ _ i4) (paired_mono (fun _ _ => MkV.mono (Same.grow gp)) i5) (paired_mono (fun _ _ => StV.mono (Same.grow gp)) i6) (paired_mono (fun _ _ => MkV.mono (Same.grow gp)) i7)
        (i8.begin m0 m1 hwd (by simp) (fun _ => rfl)) ⟨p, rfl, SqT.of upd_same⟩
  clear i1 i2 i3 i4 i5 i6 i7 i8 B S E' xb xs xe
  rintro _ H5 ⟨rfl, B, S, E', xb, xs, xe, i1, i2, i3, i4, i5, i6, i7, i8⟩
  refine ⟨fun σ' H' => [some (.ref a), some (.int at_), some (.bl pl), some (.int fi), some (.str g), some (.int r), some (.ref pb), some (.ref ps), some (.ref pe), x9, x10, x11, x12, x13, x14, x15] = σ' ∧ HI K H pb ps pe pl g r 95 H', ?_, ?_⟩
  · have stay : ∀ H', Same H5 H' → HI K H pb ps pe pl g r 95 H' := fun H' g' => HI.mono ⟨B, S, E', xb, xs, xe, i1, i2, i3, i4, i5, i6, i7, i8⟩ g' (by omega)
    refine ⟨fun b H' => H5 = H' ∧ (b = true → 0 < r ∧ E' = []), ?_, ?_⟩
    · refine ⟨_, rfl, _, _, rfl, rfl, _, rfl, iteDd (fun c1 => ?_) (fun _ => ⟨rfl, fun z => nomatch z⟩)⟩
      refine ⟨_, rfl, pe, xe, rfl, .inl (SqL.of i4), rfl, _, rfl, iteDd (fun c => ?_) (fun _ => ⟨rfl, fun z => nomatch z⟩)⟩
      refine ⟨_, rfl, _, _, rfl, rfl, ⟨by decide, by decide⟩, _, _, rfl, rfl, pz, _, _, rfl, rfl, _, rfl, rfl, fun _ => ⟨c1, ?_⟩⟩
      injection c with c
      exact List.eq_nil_of_length_eq_zero (by rw [i7.length]; omega)
    · rintro b _ ⟨rfl, hb⟩
      refine iteB (fun hbt => ?_) (fun _ => ⟨rfl, stay _ (Same.refl _)⟩)
      obtain ⟨hr2, rfl⟩ := hb hbt
      have m0 := Int.emod_nonneg (fi / 361) (show r ≠ 0 by omega)
      have m1 := Int.emod_lt_of_pos (fi / 361) hr2
      have hlx : xe.length < sizeLine := by rw [← i7.length]; exact szl' (by decide)
      refine ⟨_, rfl, .inl ⟨rfl, _, SqL.of i4⟩, _, rfl, _, _, rfl, rfl, ⟨by decide, by decide⟩, _, rfl, _, _, rfl, rfl, hr2, _, rfl, _, _, rfl, rfl, ⟨by decide, by decide⟩, _, rfl, fun wd H6 hwd g6 => ⟨(by show 2 ≤ sizeLine; decide), fun p hp => ?_⟩⟩
      dsimp only at hp ⊢
      have gp := g6.trans (same_new hp (.tup [V.int (fi / 361 % r), V.str wd]))
      refine ⟨pe, xe, .ref p, rfl, rfl, gp _ _ i4, hlx, rfl, ?_⟩
      exact HI.addEnd AP (i1.trans gp) (gp _ _ i2) (gp _ _ i3) (gp _ _ i4) (paired_mono (fun _ _ => MkV.mono (Same.grow gp)) i5) (paired_mono (fun _ _ => StV.mono (Same.grow gp)) i6) (paired_mono (fun _ _ => MkV.mono (Same.grow gp)) i7)
        (i8.end_ m0 m1 hwd (by simp) (fun _ m hm => by simp at hm)) ⟨p, rfl, SqT.of upd_same⟩
  clear i1 i2 i3 i4 i5 i6 i7 i8 B S E' xb xs xe
  rintro _ H6 ⟨rfl, B, S, E', xb, xs, xe, i1, i2, i3, i4, i5, i6, i7, i8⟩
  refine ⟨_, rfl, _, rfl, _, rfl, _, rfl, _, rfl, (by show 5 ≤ sizeLine; decide), fun v hv => ?_⟩
  have gv := same_new hv (.tup [V.str g, V.int r, V.ref pb, V.ref ps, V.ref pe])
  exact q _ _ ⟨g, r, B, S, E'⟩ pb ps pe ⟨i1.trans gv, ⟨v, xb, xs, xe, rfl, SqT.of upd_same, SqL.of (gv _ _ i2), SqL.of (gv _ _ i3), SqL.of (gv _ _ i4), paired_mono (fun _ _ => MkV.mono (Same.grow gv)) i5, paired_mono (fun _ _ => StV.mono (Same.grow gv)) i6, paired_mono (fun _ _ => MkV.mono (Same.grow gv)) i7⟩,
    i8, hr0, hr1, hg1, hg2, hg3, hg4⟩

theorem sc_law_text : FnScope ["_law_cell", "_law_signs", "_law_text_here", "_law_number", "_law_k"] ["_law_cell", "_law_signs"] (defScope s_law_text) := ⟨rfl, rfl, rfl, by decide +kernel, rfl, by decide +kernel, by decide +kernel⟩
theorem ok_law_text (B : Bi mg) {c_NoWay : Addr} (XB : Xb K mg c_NoWay)  {f : Addr} {fd : FuncData} (F : Fun K "_law_text" "_law_text" s_law_text f fd) : FnOk P w K mg base CX0 1 f fd ["_law_cell", "_law_signs"] (spText) := by
  refine F.ok sc_law_text (fun vs H Q E h => ?_) (fun cdv A outer s H vs Q E hr h => ?_)
  · obtain ⟨c, g, rfl, _⟩ := h; rfl
  obtain ⟨c, g, rfl, hg1, hg2, q⟩ := h
  refine ⟨_, (pss_cons (ps_set (i := 2) sc_law_text.nd rfl (Or.inl rfl) pe_str)
      (pss_cons (ps_set (i := 3) sc_law_text.nd rfl (Or.inl rfl) (pe_op op_fdiv (pv 0) pe_int))
      (pss_cons (ps_for PassesOwn.never (by rfl) (pi_range1 (by rfl) B.range (pa_cons (pe_op op_mod (pv 0) pe_int) pa_nil)) (pg_name (i := 4) sc_law_text.nd rfl (Or.inl rfl)) (pss_cons (ps_set (i := 2) sc_law_text.nd rfl (Or.inl rfl) (pe_op op_add_str (pv 2) (pe_ix ix_str (pv 1) (pe_op op_mod (pv 3) (pe_callB call_len_str (by rfl) B.len bt_len (pa_cons (pv 1) pa_nil))) (by intro _ _; rfl))))
      (pss_one (ps_set (i := 3) sc_law_text.nd rfl (Or.inl rfl) (pe_op op_fdiv (pv 3) (pe_callB call_len_str (by rfl) B.len bt_len (pa_cons (pv 1) pa_nil)))))))
      (pss_one (ps_ret (pv 2)))))), ?_⟩
  have hgl : (0 : Int) < g.length ∧ (g.length : Int) < 1073741824 := by omega
  refine ⟨_, rfl, _, _, rfl, rfl, ⟨by decide, by decide⟩, ?_⟩
  refine ⟨_, rfl, _, _, rfl, rfl, pz, _, rfl, by omega, by omega, ?_⟩
  have h13 : (c % 13).toNat ≤ 12 := by omega
  refine for_range (fun i σ H' => H = H' ∧ ∃ (y : Str) (n : Int) (x4 : Option V), y.length = i ∧ σ = [some (.int c), some (.str g), some (.str y), some (.int n), x4]) ⟨rfl, "", _, none, rfl, rfl⟩ ?_ ?_
  · rintro i σ _ hi ⟨rfl, y, n, x4, hy, rfl⟩
    have hi12 : i < 12 := Nat.lt_of_lt_of_le hi h13
    obtain ⟨k, hk, hm⟩ := at_mem (xs := cl g) (i := n % (g.length : Int)) (Int.emod_nonneg _ (by omega)) (by rw [cl_length]; exact Int.emod_lt_of_pos _ hgl.1)
    refine ⟨_, rfl, _, rfl, _, rfl, _, rfl, g, rfl, szl (by omega), _, _, rfl, rfl, hgl.1, g, _, k, rfl, rfl, szl (by omega), hk, _, _, rfl, rfl, szl (by rw [hy, one_len]; omega), ?_⟩
    refine ⟨_, rfl, _, rfl, g, rfl, szl (by omega), _, _, rfl, rfl, hgl, ?_⟩
    exact ⟨rfl, _, _, _, by rw [len_app, hy]; rfl, rfl⟩
  · rintro σ _ ⟨rfl, y, n, x4, hy, rfl⟩
    exact ⟨_, rfl, q y (by omega)⟩

theorem sc_law_copied : FnScope ["_law_scribe_here"] ["_law_scribe_here"] (defScope s_law_copied) := ⟨rfl, rfl, rfl, by decide +kernel, rfl, by decide +kernel, by decide +kernel⟩
theorem ok_law_copied (B : Bi mg) {c_NoWay : Addr} (XB : Xb K mg c_NoWay)  {f : Addr} {fd : FuncData} (F : Fun K "_law_copied" "_law_copied" s_law_copied f fd) : FnOk P w K mg base CX0 1 f fd ["_law_scribe_here"] (spCopied K) := by
  refine F.ok sc_law_copied (fun vs H Q E h => ?_) (fun cdv A outer s H vs Q E hr h => ?_)
  · obtain ⟨v, s, pb, ps, pe, rfl, _⟩ := h; rfl
  obtain ⟨v, s, pb, ps, pe, rfl, hV, q⟩ := h
  refine ⟨_, (pss_one (ps_ret (pe_tup (pa_cons (pe_ix (kIx (K := K) rIxT ix_tup) (pv 0) pe_int (by intro _ _; rfl)) (pa_cons (pe_ix (kIx (K := K) rIxT ix_tup) (pv 0) pe_int (by intro _ _; rfl)) (pa_cons (pe_callTy (kCall (K := K) rLo call_list_of) (by rfl) B.list bt_list (pa_cons (pe_ix (kIx (K := K) rIxT ix_tup) (pv 0) pe_int (by intro _ _; rfl)) pa_nil)) (pa_cons (pe_callTy (kCall (K := K) rLo call_list_of) (by rfl) B.list bt_list (pa_cons (pe_ix (kIx (K := K) rIxT ix_tup) (pv 0) pe_int (by intro _ _; rfl)) pa_nil)) (pa_cons (pe_callTy (kCall (K := K) rLo call_list_of) (by rfl) B.list bt_list (pa_cons (pe_ix (kIx (K := K) rIxT ix_tup) (pv 0) pe_int (by intro _ _; rfl)) pa_nil)) pa_nil)))))))), ?_⟩
  obtain ⟨a, xb, xs, xe, rfl, h1, h2, h3, h4, h5, h6, h7⟩ := hV
  refine ⟨_, rfl, _, _, _, _, rfl, rfl, h1, rfl, _, rfl, _, _, _, _, rfl, rfl, h1, rfl, _, rfl, _, _, _, _, rfl, rfl, h1, rfl, pb, xb, rfl, .inl h2, fun qb hqb => ?_⟩
  have g1 := same_new hqb (.lst xb)
  refine ⟨_, rfl, _, _, _, _, rfl, rfl, Same.seqT g1 h1, rfl, ps, xs, rfl, .inl (g1.seq h3), fun qs hqs => ?_⟩
  have g2 := g1.trans (same_new hqs (.lst xs))
  refine ⟨_, rfl, _, _, _, _, rfl, rfl, Same.seqT g2 h1, rfl, pe, xe, rfl, .inl (g2.seq h4), fun qe hqe => ⟨(by show 5 ≤ sizeLine; decide), fun v hv => ?_⟩⟩
  have g3 := g2.trans (same_new hqe (.lst xe))
  have gv := same_new hv (.tup [V.str s.signs, V.int s.rooms, V.ref qb, V.ref qs, V.ref qe])
  have hqs' : H qs = none := g1.free hqs
  have hqe' : upd H qb (.lst xb) qe = none := (same_new hqs (.lst xs)).free hqe
  have AP : Apart H qb qs qe := ⟨hqb, hqs', g1.free hqe', ne_of_none upd_same hqs, ne_of_none upd_same hqe', ne_of_none upd_same hqe⟩
  have eb : upd (upd (upd H qb (.lst xb)) qs (.lst xs)) qe (.lst xe) qb = some (.lst xb) := by rw [upd_ne AP.be, upd_ne AP.bs]; exact upd_same
  have es : upd (upd (upd H qb (.lst xb)) qs (.lst xs)) qe (.lst xe) qs = some (.lst xs) := by rw [upd_ne AP.se]; exact upd_same
  have ee : upd (upd (upd H qb (.lst xb)) qs (.lst xs)) qe (.lst xe) qe = some (.lst xe) := upd_same
  have G := Same.grow (g3.trans gv)
  exact q _ _ qb qs qe (g3.trans gv) ⟨v, xb, xs, xe, rfl, SqT.of upd_same, gv _ _ eb, gv _ _ es, gv _ _ ee, paired_mono (fun _ _ => MkV.mono G) h5, paired_mono (fun _ _ => StV.mono G) h6, paired_mono (fun _ _ => MkV.mono G) h7⟩ AP

theorem sc_law_dead : FnScope ["_law_scribe_here", "_law_text_here", "_law_dead_here", "_law_goes", "_law_room", "_law_k", "_law_near"] ["_law_scribe_here", "_law_text_here"] (defScope s_law_dead) := ⟨rfl, rfl, rfl, by decide +kernel, rfl, by decide +kernel, by decide +kernel⟩
theorem ok_law_dead (B : Bi mg) {c_NoWay : Addr} (XB : Xb K mg c_NoWay)  {f : Addr} {fd : FuncData} (F : Fun K "_law_dead" "_law_dead" s_law_dead f fd) : FnOk P w K mg base CX0 1 f fd ["_law_scribe_here", "_law_text_here"] (spDead K) := by
  refine F.ok sc_law_dead (fun vs H Q E h => ?_) (fun cdv A outer s H vs Q E hr h => ?_)
  · obtain ⟨v, s, pb, ps, pe, x, rfl, _⟩ := h; rfl
  obtain ⟨v, s, pb, ps, pe, x, rfl, hV, r0, r1, le, ls, lx, hgr, q⟩ := h
  refine ⟨_, (pss_cons (ps_set (i := 2) sc_law_dead.nd rfl (Or.inr rfl) pe_dnewT)
      (pss_cons (ps_compset (i := 3) sc_law_dead.nd rfl (Or.inl rfl) (by rfl) (by rfl) (blk_mk (N' := ["_law_end"]) (js := [none]) rfl (by decide +kernel) rfl (by decide +kernel) rfl rfl) (kPI (K := K) (fun k => iList k _) (pi_list (pe_ix (kIx (K := K) rIxT ix_tup) (pv 0) pe_int (by intro _ _; rfl)))) (fun _ _ _ _ _ => (pg_name (i := 0) (show List.Nodup (["_law_end"] : List Str) by decide +kernel) rfl (Or.inl rfl))) (fun _ _ _ _ _ => pf_nil) (fun _ _ _ _ _ => (pe_ix (kIx (K := K) rIxT ix_tup) (pv 0) pe_int (by intro _ _; rfl))))
      (pss_cons (ps_for PassesOwn.never (by rfl) (pi_range1 (by rfl) B.range (pa_cons (pe_ix (kIx (K := K) rIxT ix_tup) (pv 0) pe_int (by intro _ _; rfl)) pa_nil)) (pg_name (i := 4) sc_law_dead.nd rfl (Or.inr rfl)) (pss_one (ps_if (pt_cmpR (kOp (K := K) (rIn · true) op_notIn_seq) (pv 4) (pv 3) rfl) (pss_one (ps_dput (hu_of hr) (pv 2) (pe_tup (pa_cons (pe_callB call_len_str (by rfl) B.len bt_len (pa_cons (pv 1) pa_nil)) (pa_cons (pv 4) pa_nil))) pe_bl rfl)) pss_nil)))
      (pss_cons (ps_for PassesOwn.never (by rfl) (pi_down (by rfl) B.range (pa_cons (pe_op op_sub (pe_callB call_len_str (by rfl) B.len bt_len (pa_cons (pv 1) pa_nil)) pe_int) (pa_cons (pe_un un_neg pe_int) (pa_cons (pe_un un_neg pe_int) pa_nil)))) (pg_name (i := 5) sc_law_dead.nd rfl (Or.inr rfl)) (pss_one (ps_for PassesOwn.never (by rfl) (pi_range1 (by rfl) B.range (pa_cons (pe_ix (kIx (K := K) rIxT ix_tup) (pv 0) pe_int (by intro _ _; rfl)) pa_nil)) (pg_name (i := 4) sc_law_dead.nd rfl (Or.inr rfl)) (pss_cons (ps_compset (i := 6) sc_law_dead.nd rfl (Or.inl rfl) (by rfl) (by rfl) (blk_mk (N' := ["_law_step", "_law_room", "_law_text_here", "_law_k"]) (js := [none, some 4, some 1, some 5]) rfl (by decide +kernel) rfl (by decide +kernel) rfl rfl) (kPI (K := K) (fun k => iList k _) (pi_list (pe_ix (kIx (K := K) rIxT ix_tup) (pv 0) pe_int (by intro _ _; rfl)))) (fun _ _ _ _ _ => (pg_name (i := 0) (show List.Nodup (["_law_step", "_law_room", "_law_text_here", "_law_k"] : List Str) by decide +kernel) rfl (Or.inl rfl))) (fun _ _ _ _ _ => (pf_one (PW.pt (pw_and (pt_cmpR op_eq (pe_ix (kIx (K := K) rIxT ix_tup) (pv 0) pe_int (by intro _ _; rfl)) (pv 1) (nomark _)) (pw_and1 (pt_cmpR op_eq (pe_ix (kIx (K := K) rIxT ix_tup) (pv 0) pe_int (by intro _ _; rfl)) (pe_ix ix_str (pv 2) (pv 3) (by intro _ _; rfl)) (nomark _))))))) (fun _ _ _ _ _ => (pe_ix (kIx (K := K) rIxT ix_tup) (pv 0) pe_int (by intro _ _; rfl))))
      (pss_one (ps_if (pt_cmpR op_eq (pe_callB (kLen (K := K)) (by rfl) B.len bt_len (pa_cons (pe_comp rfl (blk_mk (N' := ["_law_other", "_law_dead_here", "_law_k"]) (js := [none, some 2, some 5]) rfl (by decide +kernel) rfl (by decide +kernel) rfl rfl) (kPI (K := K) (fun k => iList k _) (pi_list (pv 6))) (fun _ _ _ _ _ => (pg_name (i := 0) (show List.Nodup (["_law_other", "_law_dead_here", "_law_k"] : List Str) by decide +kernel) rfl (Or.inl rfl))) (fun _ _ _ _ _ => (pf_one (pt_cmp (pc_dnotin (hu_of hr) (pe_tup (pa_cons (pe_op op_add (pv 2) pe_int) (pa_cons (pv 0) pa_nil))) (pv 1))))) (fun _ _ _ _ _ => (pv 0))) pa_nil)) pe_int (nomark _)) (pss_one (ps_dput (hu_of hr) (pv 2) (pe_tup (pa_cons (pv 5) (pa_cons (pv 4) pa_nil))) pe_bl rfl)) pss_nil))))))
      (pss_one (ps_ret (pv 2))))))), ?_⟩
  obtain ⟨a, xb, xs, xe, rfl, h1, h2, h3, h4, h5, h6, h7⟩ := hV
  obtain ⟨nr, hnr⟩ := Int.eq_ofNat_of_zero_le r0
  refine fun d hd => ?_
  have g0 := same_new hd (.dT [])
  have ed := upd_same (H := H) (a := d) (o := .dT [])
  generalize upd H d (.dT []) = Hd at g0 ed ⊢
  refine ⟨_, rfl, a, _, _, _, rfl, rfl, Same.seqT g0 h1, rfl, pe, rfl, ⟨xe, g0.seq h4⟩, ?_⟩
  refine comp_list (xs := xe) (fun i ys τ H' => Hd = H' ∧ (∃ x, τ = [x]) ∧ i ≤ xe.length ∧ ys = ((s.ends.take i).map (·.1)).map V.int) ⟨rfl, ⟨_, rfl⟩, Nat.zero_le _, rfl⟩ (fun i ys τ H' z => z.1 ▸ g0.seq h4) ?_ ?_
  · rintro i y ys τ _ hy ⟨rfl, ⟨x0, rfl⟩, hi, rfl⟩
    obtain ⟨m, hm, b, rfl, hb⟩ := paired_get h7 hy
    have hil : i < xe.length := (List.getElem?_eq_some_iff.mp hy).1
    refine ⟨_, rfl, b, _, _, _, rfl, rfl, Same.seqT g0 hb, rfl, szl' (by rw [List.length_map, List.length_map, List.length_take]; omega), rfl, ⟨_, rfl⟩, hil, ?_⟩
    rw [take_get hm, List.map_append, List.map_append]; rfl
  rintro ys τ _ ⟨rfl, _, _, rfl⟩ pg hpg
  rw [← h7.length, List.take_length]
  have gg := g0.trans (same_new hpg (.lst ((s.ends.map (·.1)).map V.int)))
  have eg := upd_same (H := Hd) (a := pg) (o := .lst ((s.ends.map (·.1)).map V.int))
  have ed := same_new hpg (.lst ((s.ends.map (·.1)).map V.int)) _ _ ed
  generalize upd Hd pg (.lst ((s.ends.map (·.1)).map V.int)) = Hg at gg eg ed ⊢
  have hpd : pg ≠ d := fun z => by rw [z, ed] at eg; cases eg
  have hxx : x.length ≤ sizeLine := szl (by omega)
  refine ⟨_, rfl, a, _, _, _, rfl, rfl, Same.seqT gg h1, rfl, _, rfl, by omega, by omega, ?_⟩
  rw [hnr]
  have hdn : (cl x).drop x.length = [] := by rw [← cl_length, List.drop_length]
  refine for_range (fun i σ H' => Same H H' ∧ (∃ x4, σ = [some (.ref a), some (.str x), some (.ref d), some (.ref pg), x4, none, none]) ∧ H' pg = some (.lst ((s.ends.map (·.1)).map V.int)) ∧ ∃ kvs, H' d = some (.dT kvs) ∧ kvs.length ≤ i ∧ DeadP s x kvs x.length i)
    ⟨gg, ⟨_, rfl⟩, eg, [], ed, Nat.zero_le _, fun k r => ⟨fun z => absurd rfl z, fun ⟨h1, h2, _, h4⟩ => by omega⟩⟩ ?_ ?_
  · rintro i σ H1 hi ⟨g1, ⟨x4, rfl⟩, eg1, kvs, ek, kl, hP⟩
    have hi' : i < nr := hi
    rw [Int.zero_add]
    refine ⟨_, rfl, _, rfl, pg, _, rfl, .inl (SqL.of eg1), rfl, flat_ints _, _, rfl, ?_⟩
    show if (!inV (V.int (i : Int)) ((s.ends.map (·.1)).map V.int)) = true then _ else _
    rw [any_ints]
    by_cases c : (i : Int) ∈ s.ends.map (·.1)
    · rw [decide_eq_true c, if_neg (fun z => nomatch z)]
      exact ⟨g1, ⟨_, rfl⟩, eg1, kvs, ek, by omega, hP.skip (by show goes _ _ _ _ = true; rw [hdn, goes]; exact decide_eq_true c)⟩
    · rw [decide_eq_false c, Bool.not_false, if_pos rfl]
      refine ⟨_, rfl, _, rfl, x, rfl, hxx, _, rfl, (by show 2 ≤ sizeLine; decide), fun p hp => ?_⟩
      have gp := same_new hp (.tup [V.int (x.length : Int), V.int (i : Int)])
      have ep : upd H1 p (.tup [V.int (x.length : Int), V.int (i : Int)]) p = some (.tup ((dk x.length i).map kV)) := upd_same
      have lp := length_putK kvs (dk x.length i) (.bl true)
      refine ⟨d, _, rfl, DPut.t (v := .bl true) (gp _ _ ek) ep (szl' (by omega)), ?_⟩
      refine ⟨same_updN (g1.trans gp) hd, ⟨_, rfl⟩, (upd_ne hpd).trans (gp _ _ eg1), _, upd_same, by omega, hP.put (Nat.le_refl _) (by omega) (by omega) ?_⟩
      show goes _ _ _ _ = false
      rw [hdn, goes]; exact decide_eq_false c
  rintro σ H1 ⟨g1, ⟨x4, rfl⟩, _, kvs, ek, kl, hP⟩
  have hnt : ((nr : Int)).toNat = nr := rfl
  rw [hnt] at kl hP
  refine ⟨_, rfl, x, rfl, hxx, _, _, rfl, rfl, _, rfl, _, rfl, _, _, rfl, ⟨by omega, by omega, by decide, by decide⟩, ?_⟩
  rw [show ((x.length : Int) - 1 - -1).toNat = x.length by omega]
  refine for_down (fun j σ H' => Same H H' ∧ (∃ x4 x5 x6, σ = [some (.ref a), some (.str x), some (.ref d), some (.ref pg), x4, x5, x6]) ∧ ∃ kvs, H' d = some (.dT kvs) ∧ kvs.length ≤ 20 * (j + 1) ∧ DeadP s x kvs (x.length - j) s.rooms)
    ⟨g1, ⟨_, _, _, rfl⟩, kvs, ek, by omega, by rw [hnr]; exact hP⟩ ?_ ?_
  · rintro j σ H2 hj ⟨g2, ⟨x4, x5, x6, rfl⟩, kvs, ek, kl, hP⟩
    obtain ⟨k, hk⟩ : ∃ k, x.length = k + j + 1 := ⟨x.length - j - 1, by omega⟩
    rw [show (x.length : Int) - 1 - (j : Int) = (k : Int) by omega]
    rw [show x.length - j = k + 1 by omega] at hP
    have hP := hP.down
    have hkl : k < (cl x).length := by rw [cl_length]; omega
    obtain ⟨c, hc⟩ : ∃ c, (cl x)[k]? = some c := ⟨_, List.getElem?_eq_getElem hkl⟩
    have hdr : (cl x).drop k = c :: (cl x).drop (k + 1) := List.drop_eq_getElem?_toList_append.trans (by rw [hc]; rfl)
    refine ⟨_, rfl, a, _, _, _, rfl, rfl, Same.seqT g2 h1, rfl, _, rfl, by omega, by omega, ?_⟩
    rw [hnr]
    refine for_range (fun i σ H' => Same H H' ∧ (∃ x4 x6, σ = [some (.ref a), some (.str x), some (.ref d), some (.ref pg), x4, some (.int (k : Int)), x6]) ∧ ∃ kvs, H' d = some (.dT kvs) ∧ kvs.length ≤ 20 * (j + 1) + i ∧ DeadP s x kvs k i)
      ⟨g2, ⟨_, _, rfl⟩, kvs, ek, by omega, hP⟩ ?_ ?_
    · rintro i σ H3 hi ⟨g3, ⟨x4, x6, rfl⟩, kvs, ek, kl, hP⟩
      have hi' : i < nr := hi
      rw [Int.zero_add]
      refine ⟨_, rfl, a, _, _, _, rfl, rfl, Same.seqT g3 h1, rfl, ps, rfl, ⟨xs, g3.seq h3⟩, ?_⟩
      refine comp_list (xs := xs) (fun n ys τ H' => H3 = H' ∧ (∃ y, τ = [y, some (.int (i : Int)), some (.str x), some (.int (k : Int))]) ∧ n ≤ xs.length ∧ ys = (nearL (s.steps.take n) i ⟨#[c]⟩).map V.int) ⟨rfl, ⟨_, rfl⟩, Nat.zero_le _, rfl⟩ (fun n ys τ H' z => z.1 ▸ g3.seq h3) ?_ ?_
      · rintro n y ys τ _ hy ⟨rfl, ⟨y0, rfl⟩, hn, rfl⟩
        obtain ⟨t, ht, b, rfl, hb⟩ := paired_get h6 hy
        have hnl : n < xs.length := (List.getElem?_eq_some_iff.mp hy).1
        have hll : xs.length ≤ 99 := by rw [← h6.length]; exact ls
        have hb3 := (Same.grow g3).seqT hb
        have hsn := near_snoc ht i ⟨#[c]⟩
        have hnn := near_len s.steps n i ⟨#[c]⟩
        refine ⟨_, rfl, b, _, _, _, rfl, rfl, hb3, rfl, _, rfl, rfl, _, rfl, iteDd (fun c1 => ?_) (fun c1 => ?_)⟩
        · refine ⟨_, rfl, b, _, _, _, rfl, rfl, hb3, rfl, _, rfl, _, rfl, x, _, c, rfl, rfl, hxx, atI_nat hc, rfl, _, rfl, iteDd (fun c2 => ?_) (fun c2 => ?_)⟩
          · injection c1 with c1
            injection c2 with c2
            rw [if_pos ⟨c1, c2⟩] at hsn
            exact ⟨_, rfl, b, _, _, _, rfl, rfl, hb3, rfl, szl' (by rw [List.length_map]; omega), rfl, ⟨_, rfl⟩, hnl, by rw [hsn, List.map_append]; rfl⟩
          · rw [if_neg (fun z => c2 (by rw [z.2])), List.append_nil] at hsn
            exact ⟨rfl, ⟨_, rfl⟩, hnl, by rw [hsn]⟩
        · rw [if_neg (fun z => c1 (by rw [z.1])), List.append_nil] at hsn
          exact ⟨rfl, ⟨_, rfl⟩, hnl, by rw [hsn]⟩
      rintro ys τ _ ⟨rfl, _, _, rfl⟩ pn hpn
      have hNl := near_len s.steps xs.length i ⟨#[c]⟩
      have hll : xs.length ≤ 99 := by rw [← h6.length]; exact ls
      have hnone := near_none (i := (i : Int)) hP hdr (by rw [← cl_length]; exact hkl) hgr
      rw [← h6.length, List.take_length] at hNl ⊢
      generalize nearL s.steps i ⟨#[c]⟩ = N at hNl hnone ⊢
      have g4 := g3.trans (same_new hpn (.lst (N.map V.int)))
      have en := upd_same (H := H3) (a := pn) (o := .lst (N.map V.int))
      have ek := same_new hpn (.lst (N.map V.int)) _ _ ek
      generalize upd H3 pn (.lst (N.map V.int)) = H4 at g4 en ek ⊢
      refine ⟨_, rfl, pn, rfl, ⟨_, SqL.of en⟩, ?_⟩
      refine comp_list (xs := N.map V.int) (fun n ys τ H' => Same H4 H' ∧ (∃ y, τ = [y, some (.ref d), some (.int (k : Int))]) ∧ n ≤ N.length ∧ ys = ((N.take n).filter fun o => (valV kvs (dk (k + 1) o)).isNone).map V.int) ⟨Same.refl _, ⟨_, rfl⟩, Nat.zero_le _, rfl⟩ (fun n ys τ H' z => z.1.seq (SqL.of en)) ?_ ?_
      · rintro n y ys τ H5 hy ⟨g5, ⟨y0, rfl⟩, hn, rfl⟩
        rw [List.getElem?_map] at hy
        obtain ⟨o, ho, rfl⟩ := Option.map_eq_some_iff.mp hy
        have hnl : n < N.length := (List.getElem?_eq_some_iff.mp ho).1
        refine ⟨_, rfl, _, _, rfl, rfl, _, rfl, (by show 2 ≤ sizeLine; decide), fun p hp => ?_⟩
        have gp := same_new hp (.tup [V.int ((k : Int) + 1), V.int o])
        have ep : upd H5 p (.tup [V.int ((k : Int) + 1), V.int o]) p = some (.tup ((dk (k + 1) o).map kV)) := upd_same
        refine ⟨_, rfl, d, _, rfl, DGet.t (gp _ _ (g5 _ _ ek)) ep, _, rfl, ?_⟩
        have hfl := List.length_filter_le (fun o => (valV kvs (dk (k + 1) o)).isNone) (N.take n)
        rw [List.length_take] at hfl
        cases hv : valV kvs (dk (k + 1) o) with
        | none =>
          refine iteT ⟨_, rfl, szl' (by rw [List.length_map]; omega), g5.trans gp, ⟨_, rfl⟩, hnl, ?_⟩
          rw [take_get ho, filter_snoc, if_pos (by rw [hv]; rfl), List.map_append]; rfl
        | some u =>
          refine iteF ⟨g5.trans gp, ⟨_, rfl⟩, hnl, ?_⟩
          rw [take_get ho, filter_snoc, if_neg (by rw [hv]; exact fun z => nomatch z), List.append_nil]
      rintro ys τ H5 ⟨g5, _, _, rfl⟩ pl hpl
      rw [List.length_map, List.take_length]
      generalize (N.filter fun o => (valV kvs (dk (k + 1) o)).isNone) = F at hnone ⊢
      have gl := same_new hpl (.lst (F.map V.int))
      have g6 := (g4.trans g5).trans gl
      have ek6 := gl _ _ (g5 _ _ ek)
      refine ⟨pl, _, rfl, .inl (SqL.of upd_same), rfl, _, rfl, iteDd (fun c1 => ?_) (fun c1 => ?_)⟩
      · injection c1 with c1
        rw [List.length_map] at c1
        have hg := hnone.mp (List.eq_nil_of_length_eq_zero (by omega))
        refine ⟨_, rfl, _, rfl, _, rfl, (by show 2 ≤ sizeLine; decide), fun p hp => ?_⟩
        have gp := same_new hp (.tup [V.int (k : Int), V.int (i : Int)])
        have ep : upd (upd H5 pl (.lst (F.map V.int))) p (.tup [V.int (k : Int), V.int (i : Int)]) p = some (.tup ((dk k i).map kV)) := upd_same
        have lp := length_putK kvs (dk k i) (.bl true)
        refine ⟨d, _, rfl, DPut.t (v := .bl true) (gp _ _ ek6) ep (szl' (by omega)), ?_⟩
        exact ⟨same_updN (g6.trans gp) hd, ⟨_, _, rfl⟩, _, upd_same, by omega, hP.put (by omega) (by omega) (by omega) hg⟩
      · have hg : goS s x k i = true := by
          cases z : goS s x k i with
          | true => rfl
          | false => exact absurd (by rw [hnone.mpr z]; rfl) c1
        exact ⟨g6, ⟨_, _, rfl⟩, kvs, ek6, by omega, hP.skip hg⟩
    rintro σ H3 ⟨g3, ⟨x4, x6, rfl⟩, kvs, ek, kl, hP⟩
    rw [hnt] at kl hP
    exact ⟨g3, ⟨_, _, _, rfl⟩, kvs, ek, by omega, by rw [show x.length - (j + 1) = k by omega]; exact hP⟩
  rintro σ H2 ⟨g2, ⟨x4, x5, x6, rfl⟩, kvs, ek, kl, hP⟩
  refine ⟨_, rfl, q d _ kvs g2 hd ek fun k r hk => ?_⟩
  rw [hP k r]
  constructor
  · rintro ⟨h1, _, h3, _⟩; exact ⟨h1, h3⟩
  · rintro ⟨h1, h3⟩; exact ⟨h1, hk, h3, by omega⟩

theorem sc_law_first : FnScope ["_law_scribe_here", "_law_text_here", "_law_dead_here", "_law_signs", "_law_rooms", "_law_begins", "_law_steps", "_law_ends", "_law_at", "_law_room", "_law_row", "_law_k", "_law_good", "_law_place", "_law_step"] ["_law_scribe_here", "_law_text_here"] (defScope s_law_first) := ⟨rfl, rfl, rfl, by decide +kernel, rfl, by decide +kernel, by decide +kernel⟩
theorem ok_law_first (B : Bi mg) {c_NoWay : Addr} (XB : Xb K mg c_NoWay) (C_law_dead : Cal P w K mg base "_law_dead" ["_law_scribe_here", "_law_text_here"] 1 (spDead K)) {f : Addr} {fd : FuncData} (F : Fun K "_law_first" "_law_first" s_law_first f fd) : FnOk P w K mg base CX0 2 f fd ["_law_scribe_here", "_law_text_here"] (spFirst K) := by
  refine F.ok sc_law_first (fun vs H Q E h => ?_) (fun cdv A outer s H vs Q E hr h => ?_)
  · obtain ⟨v, s, pb, ps, pe, x, rfl, _⟩ := h; rfl
  obtain ⟨v, s, pb, ps, pe, x, rfl, hV, r0, r1, lb, le, ls, lx, hbr, hgr, qn, qs⟩ := h
  refine ⟨_, (pss_cons (ps_set (i := 2) sc_law_first.nd rfl (Or.inl rfl) (pe_fn C_law_dead hr (by decide : 1 ≤ 1) (by rfl) (pa_cons (pv 0) (pa_cons (pv 1) pa_nil))))
      (pss_cons (ps_asg (pv 0) (kPG (K := K) (fun k => gTup k 5 _) (pg_tup (n := 5) (by rfl) (pgs_cons (pg_name (i := 3) sc_law_first.nd rfl (Or.inl rfl)) (pgs_cons (pg_name (i := 4) sc_law_first.nd rfl (Or.inl rfl)) (pgs_cons (pg_name (i := 5) sc_law_first.nd rfl (Or.inl rfl)) (pgs_cons (pg_name (i := 6) sc_law_first.nd rfl (Or.inl rfl)) (pgs_cons (pg_name (i := 7) sc_law_first.nd rfl (Or.inl rfl)) pgs_nil))))))))
      (pss_cons (ps_for PassesOwn.never (by rfl) (pi_range1 (by rfl) B.range (pa_cons (pe_callB (kLen (K := K)) (by rfl) B.len bt_len (pa_cons (pv 5) pa_nil)) pa_nil)) (pg_name (i := 8) sc_law_first.nd rfl (Or.inl rfl)) (pss_one (ps_if (pt_cmp (pc_dnotin (hu_of hr) (pe_tup (pa_cons pe_int (pa_cons (pe_ix (kIx (K := K) rIxT ix_tup) (pe_ix (kIx (K := K) rIxL ix_list) (pv 5) (pv 8) (by intro _ _; rfl)) pe_int (by intro _ _; rfl)) pa_nil))) (pv 2))) (pss_cons (ps_set (i := 9) sc_law_first.nd rfl (Or.inl rfl) (pe_ix (kIx (K := K) rIxT ix_tup) (pe_ix (kIx (K := K) rIxL ix_list) (pv 5) (pv 8) (by intro _ _; rfl)) pe_int (by intro _ _; rfl)))
      (pss_cons (ps_set (i := 10) sc_law_first.nd rfl (Or.inl rfl) (pe_lst pa_nil))
      (pss_cons (ps_for PassesOwn.never (by rfl) (pi_range1 (by rfl) B.range (pa_cons (pe_callB call_len_str (by rfl) B.len bt_len (pa_cons (pv 1) pa_nil)) pa_nil)) (pg_name (i := 11) sc_law_first.nd rfl (Or.inl rfl)) (pss_cons (ps_set (i := 12) sc_law_first.nd rfl (Or.inl rfl) (pe_lst pa_nil))
      (pss_cons (ps_for PassesOwn.never (by rfl) (pi_range1 (by rfl) B.range (pa_cons (pe_callB (kLen (K := K)) (by rfl) B.len bt_len (pa_cons (pv 6) pa_nil)) pa_nil)) (pg_name (i := 13) sc_law_first.nd rfl (Or.inl rfl)) (pss_cons (ps_set (i := 14) sc_law_first.nd rfl (Or.inl rfl) (pe_ix (kIx (K := K) rIxL ix_list) (pv 6) (pv 13) (by intro _ _; rfl)))
      (pss_one (ps_if (PW.pt (pw_and (pt_cmpR op_eq (pe_ix (kIx (K := K) rIxT ix_tup) (pv 14) pe_int (by intro _ _; rfl)) (pv 9) (nomark _)) (pw_and (pt_cmpR op_eq (pe_ix (kIx (K := K) rIxT ix_tup) (pv 14) pe_int (by intro _ _; rfl)) (pe_ix ix_str (pv 1) (pv 11) (by intro _ _; rfl)) (nomark _)) (pw_and1 (pt_cmp (pc_dnotin (hu_of hr) (pe_tup (pa_cons (pe_op op_add (pv 11) pe_int) (pa_cons (pe_ix (kIx (K := K) rIxT ix_tup) (pv 14) pe_int (by intro _ _; rfl)) pa_nil))) (pv 2))))))) (pss_one (ps_expr (kPE (K := K) (fun k => tBM k _ _ _ _) (pe_bm PySem.F.plainAttrs_list PySem.F.slot_list_append PySem.F.type_list_append mt_append (pv 12) (pa_cons (pv 13) pa_nil))))) pss_nil))))
      (pss_cons (ps_expr (kPE (K := K) (fun k => tBM k _ _ _ _) (pe_bm PySem.F.plainAttrs_list PySem.F.slot_list_append PySem.F.type_list_append mt_append (pv 10) (pa_cons (pe_ix (kIx (K := K) rIxL ix_list) (pv 12) pe_int (by intro _ _; rfl)) pa_nil))))
      (pss_one (ps_set (i := 9) sc_law_first.nd rfl (Or.inl rfl) (pe_ix (kIx (K := K) rIxT ix_tup) (pe_ix (kIx (K := K) rIxL ix_list) (pv 6) (pe_ix (kIx (K := K) rIxL ix_list) (pv 12) pe_int (by intro _ _; rfl)) (by intro _ _; rfl)) pe_int (by intro _ _; rfl))))))))
      (pss_one (ps_ret (pe_tup (pa_cons (pv 8) (pa_cons (pv 10) (pa_cons (kBm (K := K) (pe_bm PySem.F.plainAttrs_list PySem.F.slot_list_index PySem.F.type_list_index mt_index (pe_comp rfl (blk_mk (N' := ["_law_end"]) (js := [none]) rfl (by decide +kernel) rfl (by decide +kernel) rfl rfl) (kPI (K := K) (fun k => iList k _) (pi_list (pv 7))) (fun _ _ _ _ _ => (pg_name (i := 0) (show List.Nodup (["_law_end"] : List Str) by decide +kernel) rfl (Or.inl rfl))) (fun _ _ _ _ _ => pf_nil) (fun _ _ _ _ _ => (pe_ix (kIx (K := K) rIxT ix_tup) (pv 0) pe_int (by intro _ _; rfl)))) (pa_cons (pv 9) pa_nil))) pa_nil))))))))) pss_nil)))
      (pss_one (ps_ret pe_non))))), ?_⟩
  obtain ⟨a, xb, xs, xe, rfl, h1, h2, h3, h4, h5, h6, h7⟩ := id hV
  have lxb : s.begins.length = xb.length := h5.length
  have lxs : s.steps.length = xs.length := h6.length
  have lxe : s.ends.length = xe.length := h7.length
  have hxx : x.length ≤ sizeLine := szl (by omega)
  have hcl : (cl x).length = x.length := cl_length x
  refine ⟨_, rfl, _, rfl, _, s, pb, ps, pe, x, rfl, hV, r0, r1, le, ls, lx, hgr, fun d H1 kvs g1 hd ed hdead => ?_⟩
  have alive : ∀ (k : Nat) (r : Int), k ≤ x.length → 0 ≤ r → r < s.rooms → (valV kvs (dk k r) = none ↔ goes s.steps (endsI s) ((cl x).drop k) r = true) := fun k r hk h0 h1 => by
    have := hdead k r hk
    constructor
    · intro z
      cases hg : goes s.steps (endsI s) ((cl x).drop k) r with
      | true => rfl
      | false => exact absurd z (this.mpr ⟨⟨h0, h1⟩, hg⟩)
    · intro z
      by_cases c : valV kvs (dk k r) = none
      · exact c
      · have e := (this.mp c).2
        have e : goes s.steps (endsI s) ((cl x).drop k) r = false := e
        rw [z] at e; cases e
  refine ⟨_, rfl, a, _, rfl, Same.seqT g1 h1, rfl, _, _, rfl, _, _, rfl, _, _, rfl, _, _, rfl, _, _, rfl, rfl, ?_⟩
  refine ⟨_, rfl, pb, _, rfl, .inl (g1.seq h2), _, rfl, by omega, by omega, ?_⟩
  refine for_range (fun i σ H' => Same H1 H' ∧ i ≤ xb.length ∧ (∃ x8 x9 x10 x11 x12 x13 x14, σ = [some (.ref a), some (.str x), some (.ref d), some (.str s.signs), some (.int s.rooms), some (.ref pb), some (.ref ps), some (.ref pe), x8, x9, x10, x11, x12, x13, x14]) ∧ firstP (goes s.steps (endsI s) (cl x)) (s.begins.map (·.1)) 0 = firstP (goes s.steps (endsI s) (cl x)) ((s.begins.drop i).map (·.1)) i)
    ⟨Same.refl _, Nat.zero_le _, ⟨_, _, _, _, _, _, _, rfl⟩, rfl⟩ ?_ ?_
  rotate_left
  · rintro σ H2 ⟨g2, _, ⟨x8, x9, x10, x11, x12, x13, x14, rfl⟩, hf⟩
    have hnx : ((xb.length : Int)).toNat = xb.length := rfl
    rw [hnx, ← lxb, List.drop_length] at hf
    refine qn ?_ _ (g1.trans g2)
    unfold fwS
    rw [hf]; rfl
  rintro i σ H2 hi ⟨g2, _, ⟨x8, x9, x10, x11, x12, x13, x14, rfl⟩, hf⟩
  have hi : i < xb.length := hi
  rw [Int.zero_add]
  obtain ⟨m, hm⟩ : ∃ m, s.begins[i]? = some m := ⟨_, List.getElem?_eq_getElem (by omega)⟩
  obtain ⟨vm, hvm, b, rfl, hb⟩ := paired_getL h5 hm
  have hmm := List.mem_of_getElem? hm
  have gA := g1.trans g2
  have hb2 := Same.seqT gA hb
  refine ⟨_, rfl, _, rfl, pb, xb, _, _, rfl, rfl, gA.seq h2, atI_nat hvm, b, _, _, _, rfl, rfl, hb2, rfl, (by show 2 ≤ sizeLine; decide), fun p hp => ?_⟩
  have gp := same_new hp (.tup [V.int 0, V.int m.1])
  have ep : upd H2 p (.tup [V.int 0, V.int m.1]) p = some (.tup ((dk 0 m.1).map kV)) := upd_same
  have ed2 := gp _ _ (g2 _ _ ed)
  refine ⟨_, rfl, d, _, rfl, DGet.t ed2 ep, _, rfl, ?_⟩
  have hal := alive 0 m.1 (Nat.zero_le _) (hbr m hmm).1 (hbr m hmm).2
  rw [List.drop_zero] at hal
  have hdr : s.begins.drop i = m :: s.begins.drop (i + 1) := List.drop_eq_getElem?_toList_append.trans (by rw [hm]; rfl)
  rw [hdr, List.map_cons, firstP] at hf
  have g3 := g2.trans gp
  generalize upd H2 p (.tup [V.int 0, V.int m.1]) = H3 at ed2 ep g3 ⊢
  cases hv : valV kvs (dk 0 m.1) with
  | some u =>
    rw [hv] at hal
    rw [if_neg (fun z => by have := hal.mpr z; cases this)] at hf
    exact iteF ⟨g3, hi, ⟨_, _, _, _, _, _, _, rfl⟩, hf⟩
  | none =>
  have hgo := hal.mp hv
  rw [if_pos hgo] at hf
  refine iteT ?_
  have gB := g1.trans g3
  refine ⟨_, rfl, _, rfl, pb, xb, _, _, rfl, rfl, gB.seq h2, atI_nat hvm, b, _, _, _, rfl, rfl, Same.seqT gB hb, rfl, ?_⟩
  refine ⟨szl (by simp), fun lr hlr => ?_⟩
  have gl := same_new hlr (.lst [])
  have el := upd_same (H := H3) (a := lr) (o := .lst [])
  have g4 := g3.trans gl
  have hlr1 : H1 lr = none := g3.free hlr
  generalize upd H3 lr (.lst []) = H4 at el g4 ⊢
  refine ⟨_, rfl, x, rfl, hxx, _, rfl, by omega, by omega, ?_⟩
  refine for_range (fun j σ H' => Same H1 H' ∧ j ≤ x.length ∧ ∃ (r : Int) (is : List Int) (x11 x12 x13 x14 : Option V), σ = [some (.ref a), some (.str x), some (.ref d), some (.str s.signs), some (.int s.rooms), some (.ref pb), some (.ref ps), some (.ref pe), some (.int (i : Int)), some (.int r), some (.ref lr), x11, x12, x13, x14] ∧ H' lr = some (.lst (is.map V.int)) ∧ is.length = j ∧ goes s.steps (endsI s) ((cl x).drop j) r = true ∧ wayGo s.steps (endsI s) (cl x) m.1 = (is ++ (wayGo s.steps (endsI s) ((cl x).drop j) r).1, (wayGo s.steps (endsI s) ((cl x).drop j) r).2))
    ⟨g4, Nat.zero_le _, m.1, [], _, _, _, _, rfl, el, rfl, hgo, rfl⟩ ?_ ?_
  · rintro j σ H5 hj ⟨g5, _, r, is, x11, x12, x13, x14, rfl, el5, hisl, hgr5, hway⟩
    have hj : j < x.length := hj
    rw [Int.zero_add]
    have hjc : j < (cl x).length := by omega
    obtain ⟨c, hc⟩ : ∃ c, (cl x)[j]? = some c := ⟨_, List.getElem?_eq_getElem hjc⟩
    have hdc : (cl x).drop j = c :: (cl x).drop (j + 1) := List.drop_eq_getElem?_toList_append.trans (by rw [hc]; rfl)
    rw [hdc] at hgr5 hway
    refine ⟨szl (by simp), fun lg hlg => ?_⟩
    have gg := same_new hlg (.lst [])
    have eg := upd_same (H := H5) (a := lg) (o := .lst [])
    have g6 := g5.trans gg
    have el6 := gg _ _ el5
    have hlg1 : H1 lg = none := g5.free hlg
    have hne : lr ≠ lg := fun z => by rw [z, hlg] at el5; cases el5
    generalize upd H5 lg (.lst []) = H6 at eg g6 el6 ⊢
    refine ⟨_, rfl, ps, _, rfl, .inl ((g1.trans g6).seq h3), _, rfl, by omega, by omega, ?_⟩
    refine for_range (fun n σ H' => Same H1 H' ∧ n ≤ xs.length ∧ (∃ x13 x14, σ = [some (.ref a), some (.str x), some (.ref d), some (.str s.signs), some (.int s.rooms), some (.ref pb), some (.ref ps), some (.ref pe), some (.int (i : Int)), some (.int r), some (.ref lr), some (.int (j : Int)), some (.ref lg), x13, x14]) ∧ H' lr = some (.lst (is.map V.int)) ∧ H' lg = some (.lst (((List.range n).filter (okI s.steps (endsI s) ((cl x).drop (j + 1)) r c)).map fun (k : Nat) => V.int k)))
      ⟨g6, Nat.zero_le _, ⟨_, _, rfl⟩, el6, eg⟩ ?_ ?_
    · rintro n σ H7 hn ⟨g7, _, ⟨x13, x14, rfl⟩, el7, eg7⟩
      have hn : n < xs.length := hn
      rw [Int.zero_add]
      obtain ⟨t, ht⟩ : ∃ t, s.steps[n]? = some t := ⟨_, List.getElem?_eq_getElem (by omega)⟩
      obtain ⟨vt, hvt, bt, rfl, hbt⟩ := paired_getL h6 ht
      have htm := List.mem_of_getElem? ht
      have gC := g1.trans g7
      have hbt7 := Same.seqT gC hbt
      have hok : okI s.steps (endsI s) ((cl x).drop (j + 1)) r c n = (stQ r c t && goes s.steps (endsI s) ((cl x).drop (j + 1)) t.2.2.2) := by unfold okI; rw [ht]
      have hfl : ((List.range n).filter (okI s.steps (endsI s) ((cl x).drop (j + 1)) r c)).length ≤ n := Nat.le_trans (List.length_filter_le _ _) (by rw [List.length_range]; exact Nat.le_refl _)
      have skip : okI s.steps (endsI s) ((cl x).drop (j + 1)) r c n = false → (List.range (n + 1)).filter (okI s.steps (endsI s) ((cl x).drop (j + 1)) r c) = (List.range n).filter (okI s.steps (endsI s) ((cl x).drop (j + 1)) r c) := fun z => by
        rw [List.range_succ, filter_snoc, z]; simp
      refine ⟨_, rfl, _, rfl, ps, xs, _, _, rfl, rfl, gC.seq h3, atI_nat hvt, ?_⟩
      refine ⟨_, rfl, bt, _, _, _, rfl, rfl, hbt7, rfl, _, rfl, rfl, _, rfl, iteDd (fun c1 => ?_) (fun c1 => ?_)⟩
      rotate_left
      · refine ⟨g7, hn, ⟨_, _, rfl⟩, el7, ?_⟩
        rw [skip (by rw [hok]; unfold stQ; rw [decide_eq_false (p := t.1 = r) (fun z => c1 (by rw [z]))]; rfl)]; exact eg7
      injection c1 with c1
      refine ⟨_, rfl, bt, _, _, _, rfl, rfl, hbt7, rfl, _, rfl, _, rfl, x, _, c, rfl, rfl, hxx, atI_nat hc, rfl, _, rfl, iteDd (fun c2 => ?_) (fun c2 => ?_)⟩
      rotate_left
      · refine ⟨g7, hn, ⟨_, _, rfl⟩, el7, ?_⟩
        rw [skip (by rw [hok]; unfold stQ; rw [decide_eq_false (p := t.2.1 = ⟨#[c]⟩) (fun z => c2 (by rw [z])), Bool.and_false]; rfl)]; exact eg7
      injection c2 with c2
      refine ⟨_, rfl, _, _, rfl, rfl, _, rfl, bt, _, _, _, rfl, rfl, hbt7, rfl, (by show 2 ≤ sizeLine; decide), fun p2 hp2 => ?_⟩
      have gp2 := same_new hp2 (.tup [V.int ((j : Int) + 1), V.int t.2.2.2])
      have ep2 : upd H7 p2 (.tup [V.int ((j : Int) + 1), V.int t.2.2.2]) p2 = some (.tup ((dk (j + 1) t.2.2.2).map kV)) := upd_same
      have ed7 := gp2 _ _ (g7 _ _ ed)
      have el8 := gp2 _ _ el7
      have eg8 := gp2 _ _ eg7
      have g8 := g7.trans gp2
      refine ⟨_, rfl, d, _, rfl, DGet.t ed7 ep2, _, rfl, ?_⟩
      generalize upd H7 p2 (.tup [V.int ((j : Int) + 1), V.int t.2.2.2]) = H8 at el8 eg8 g8 ⊢
      have hal2 := alive (j + 1) t.2.2.2 (by omega) (hgr t htm).1 (hgr t htm).2
      have hst : stQ r c t = true := by unfold stQ; rw [decide_eq_true c1, decide_eq_true c2]; rfl
      cases hv2 : valV kvs (dk (j + 1) t.2.2.2) with
      | some u2 =>
        rw [hv2] at hal2
        refine iteF ⟨g8, hn, ⟨_, _, rfl⟩, el8, ?_⟩
        rw [skip ?_]
        · exact eg8
        rw [hok, hst, Bool.true_and]
        cases hg : goes s.steps (endsI s) ((cl x).drop (j + 1)) t.2.2.2 with
        | false => rfl
        | true => have := hal2.mpr hg; cases this
      | none =>
        have hg2 := hal2.mp hv2
        refine iteT ?_
        refine ⟨_, rfl, .inl ⟨rfl, _, SqL.of eg8⟩, _, rfl, lg, _, _, rfl, rfl, eg8, szl' (by rw [List.length_map]; omega), ?_⟩
        refine ⟨same_updN g8 hlg1, hn, ⟨_, _, rfl⟩, (upd_ne hne).trans el8, ?_⟩
        rw [upd_same, List.range_succ, filter_snoc, if_pos (by rw [hok, hst, hg2]; rfl), List.map_append]; rfl
    rintro σ H7 ⟨g7, _, ⟨x13, x14, rfl⟩, el7, eg7⟩
    have eg7 : H7 lg = some (.lst (((List.range xs.length).filter (okI s.steps (endsI s) ((cl x).drop (j + 1)) r c)).map fun (k : Nat) => V.int k)) := eg7
    rw [← lxs] at eg7
    obtain ⟨k0, t, hk0, ht0, e1, e2, e3, e4⟩ := goes_some hgr5
    have hhd : ((List.range s.steps.length).filter (okI s.steps (endsI s) ((cl x).drop (j + 1)) r c)).head? = some k0 := by rw [List.head?_filter]; exact hk0
    generalize (List.range s.steps.length).filter (okI s.steps (endsI s) ((cl x).drop (j + 1)) r c) = G at eg7 hhd
    have hG0 : (G.map fun (k : Nat) => V.int k)[0]? = some (V.int (k0 : Int)) := by
      cases G with
      | nil => cases hhd
      | cons g G => injection hhd with hhd; subst hhd; rfl
    obtain ⟨vt, hvt, bt, rfl, hbt⟩ := paired_getL h6 ht0
    refine ⟨_, rfl, .inl ⟨rfl, _, SqL.of el7⟩, _, rfl, lg, _, _, _, rfl, rfl, SqL.of eg7, atI_nat hG0, lr, _, _, rfl, rfl, el7, szl' (by rw [List.length_map]; omega), ?_⟩
    have g8 := same_updN g7 hlr1 (o := .lst (is.map V.int ++ [V.int (k0 : Int)]))
    have el8 := upd_same (H := H7) (a := lr) (o := .lst (is.map V.int ++ [V.int (k0 : Int)]))
    have eg8 := (upd_ne hne.symm (H := H7) (o := .lst (is.map V.int ++ [V.int (k0 : Int)]))).trans eg7
    generalize upd H7 lr (.lst (is.map V.int ++ [V.int (k0 : Int)])) = H8 at g8 el8 eg8 ⊢
    have gD := g1.trans g8
    refine ⟨_, rfl, _, rfl, lg, _, _, _, rfl, rfl, SqL.of eg8, atI_nat hG0, ps, xs, _, _, rfl, rfl, gD.seq h3, atI_nat hvt, bt, _, _, _, rfl, rfl, Same.seqT gD hbt, rfl, ?_⟩
    refine ⟨g8, hj, t.2.2.2, is ++ [(k0 : Int)], _, _, _, _, rfl, by rw [el8, List.map_append]; rfl, by rw [List.length_append, hisl]; rfl, e3, ?_⟩
    rw [hway, way_cons hk0, e4, List.append_assoc]; rfl
  rintro σ H5 ⟨g5, _, r, is, x11, x12, x13, x14, rfl, el5, hisl, hgr5, hway⟩
  have hnx : ((x.length : Int)).toNat = x.length := rfl
  rw [hnx, ← hcl, List.drop_length] at hgr5 hway
  rw [wayGo] at hway
  rw [goes] at hgr5
  have hrE : r ∈ endsI s := of_decide_eq_true hgr5
  rw [List.append_nil] at hway
  have gE := g1.trans g5
  refine ⟨_, rfl, _, rfl, _, rfl, pe, rfl, ⟨xe, gE.seq h4⟩, ?_⟩
  refine comp_list (xs := xe) (fun n ys τ H' => H5 = H' ∧ (∃ y, τ = [y]) ∧ n ≤ xe.length ∧ ys = ((s.ends.take n).map (·.1)).map V.int) ⟨rfl, ⟨_, rfl⟩, Nat.zero_le _, rfl⟩ (fun n ys τ H' z => z.1 ▸ gE.seq h4) ?_ ?_
  · rintro n y ys τ _ hy ⟨rfl, ⟨y0, rfl⟩, hn, rfl⟩
    obtain ⟨m2, hm2, b2, rfl, hb2⟩ := paired_get h7 hy
    have hnl : n < xe.length := (List.getElem?_eq_some_iff.mp hy).1
    refine ⟨_, rfl, b2, _, _, _, rfl, rfl, Same.seqT gE hb2, rfl, szl' (by rw [List.length_map, List.length_map, List.length_take]; omega), rfl, ⟨_, rfl⟩, hnl, ?_⟩
    rw [take_get hm2, List.map_append, List.map_append]; rfl
  rintro ys τ _ ⟨rfl, _, _, rfl⟩ q4 hq4
  rw [← lxe, List.take_length]
  have g6 := g5.trans (same_new hq4 (.lst ((endsI s).map V.int)))
  have e6 := upd_same (H := H5) (a := q4) (o := .lst ((endsI s).map V.int))
  have el6 := same_new hq4 (.lst ((endsI s).map V.int)) _ _ el5
  obtain ⟨ie, hie⟩ := firstP_some (p := fun m => decide (m = r)) (endsI s) 0 hrE (decide_eq_true rfl)
  obtain ⟨_, m3, hm3, em3⟩ := firstP_at _ _ _ hie
  have em3 : m3 = r := of_decide_eq_true em3
  rw [Nat.sub_zero] at hm3
  have hend : (endsI s)[ie]? = some r := by rw [← em3]; exact hm3
  have hleast : ∀ n, n < ie → (endsI s)[n]? ≠ some r := fun n hn hz => firstP_least (p := fun m => decide (m = r)) (endsI s) 0 ie hie n (by omega) r hz (decide_eq_true rfl)
  refine ⟨.inl ⟨rfl, _, SqL.of e6⟩, _, rfl, q4, endsI s, r, ie, rfl, rfl, e6, hend, hleast, (by show 3 ≤ sizeLine; decide), fun pw hpw => ?_⟩
  have gw := same_new hpw (.tup [V.int (i : Int), V.ref lr, V.int (ie : Int)])
  have hgd : (s.begins.map (·.1)).getD i 0 = m.1 := by rw [List.getD_eq_getElem?_getD, List.getElem?_map, hm]; rfl
  have hfw : fwS s x = some ⟨(i : Int), is, (ie : Int)⟩ := by
    unfold fwS
    rw [hf]
    show some (Wy.mk _ _ _) = _
    rw [hgd, hway, hie]; rfl
  exact qs _ hfw _ _ ((g1.trans g6).trans gw) ⟨pw, lr, rfl, SqT.of upd_same, gw _ _ el6⟩

theorem sc_law_says : FnScope ["_law_scribe_here", "_law_way", "_law_word_here", "_law_place"] ["_law_scribe_here", "_law_way"] (defScope s_law_says) := ⟨rfl, rfl, rfl, by decide +kernel, rfl, by decide +kernel, by decide +kernel⟩
theorem ok_law_says (B : Bi mg) {c_NoWay : Addr} (XB : Xb K mg c_NoWay)  {f : Addr} {fd : FuncData} (F : Fun K "_law_says" "_law_says" s_law_says f fd) : FnOk P w K mg base CX0 1 f fd ["_law_scribe_here", "_law_way"] (spSays K) := by
  refine F.ok sc_law_says (fun vs H Q E h => ?_) (fun cdv A outer s H vs Q E hr h => ?_)
  · obtain ⟨v, s, pb, ps, pe, wv, y, m, e, rfl, _⟩ := h; rfl
  obtain ⟨v, s, pb, ps, pe, wv, y, m, e, rfl, hV, hW, hb, hm, hrow, he, hee, hSh, hl, q⟩ := h
  refine ⟨_, (pss_cons (ps_set (i := 2) sc_law_says.nd rfl (Or.inl rfl) (pe_ix (kIx (K := K) rIxT ix_tup) (pe_ix (kIx (K := K) rIxL ix_list) (pe_ix (kIx (K := K) rIxT ix_tup) (pv 0) pe_int (by intro _ _; rfl)) (pe_ix (kIx (K := K) rIxT ix_tup) (pv 1) pe_int (by intro _ _; rfl)) (by intro _ _; rfl)) pe_int (by intro _ _; rfl)))
      (pss_cons (ps_for PassesOwn.never (by rfl) (kPI (K := K) (fun k => iList k _) (pi_list (pe_ix (kIx (K := K) rIxT ix_tup) (pv 1) pe_int (by intro _ _; rfl)))) (pg_name (i := 3) sc_law_says.nd rfl (Or.inl rfl)) (pss_one (ps_set (i := 2) sc_law_says.nd rfl (Or.inl rfl) (pe_op op_add_str (pv 2) (pe_ix (kIx (K := K) rIxT ix_tup) (pe_ix (kIx (K := K) rIxL ix_list) (pe_ix (kIx (K := K) rIxT ix_tup) (pv 0) pe_int (by intro _ _; rfl)) (pv 3) (by intro _ _; rfl)) pe_int (by intro _ _; rfl))))))
      (pss_one (ps_ret (pe_op op_add_str (pv 2) (pe_ix (kIx (K := K) rIxT ix_tup) (pe_ix (kIx (K := K) rIxL ix_list) (pe_ix (kIx (K := K) rIxT ix_tup) (pv 0) pe_int (by intro _ _; rfl)) (pe_ix (kIx (K := K) rIxT ix_tup) (pv 1) pe_int (by intro _ _; rfl)) (by intro _ _; rfl)) pe_int (by intro _ _; rfl))))))), ?_⟩
  obtain ⟨a, xb, xs, xe, rfl, h1, h2, h3, h4, h5, h6, h7⟩ := hV
  obtain ⟨aw, pr, rfl, w1, w2⟩ := hW
  obtain ⟨vb, hvb, bb, rfl, hbb⟩ := paired_getL h5 hm
  obtain ⟨ve, hve, be, rfl, hbe⟩ := paired_getL h7 hee
  have ml := hSh.1 m (List.mem_of_getElem? hm)
  have el := hSh.2.2 e (List.mem_of_getElem? hee)
  refine ⟨_, rfl, a, _, _, _, rfl, rfl, h1, rfl, _, rfl, aw, _, _, _, rfl, rfl, w1, rfl, pb, xb, _, _, rfl, rfl, h2, at_inR (by rw [← h5.length]; exact hb) hvb, bb, _, _, _, rfl, rfl, hbb, rfl, ?_⟩
  refine ⟨_, rfl, aw, _, _, _, rfl, rfl, w1, rfl, pr, rfl, ⟨_, SqL.of w2⟩, ?_⟩
  refine for_list (xs := y.row.map V.int) (fun i σ H' => H = H' ∧ i ≤ y.row.length ∧ (∃ x, σ = [some (.ref a), some (.ref aw), some (.str (sayGo s.steps m.2 (y.row.take i))), x]) ∧ (sayGo s.steps m.2 (y.row.take i)).length ≤ 100 + 100 * i)
    ⟨rfl, Nat.zero_le _, ⟨_, rfl⟩, ml⟩ (fun i σ H' _ z => z.1 ▸ SqL.of w2) ?_ ?_
  · rintro k x σ _ hx ⟨rfl, hk, ⟨x3, rfl⟩, hlen⟩
    rw [List.getElem?_map] at hx
    obtain ⟨i, hi, rfl⟩ := Option.map_eq_some_iff.mp hx
    have hkl : k < y.row.length := (List.getElem?_eq_some_iff.mp hi).1
    have hir := hrow i (List.mem_of_getElem? hi)
    obtain ⟨t, ht⟩ : ∃ t, s.steps[i.toNat]? = some t := ⟨s.steps[i.toNat]'(by have := hir.1; have := hir.2; omega), List.getElem?_eq_getElem _⟩
    obtain ⟨vt, hvt, bt, rfl, hbt⟩ := paired_getL h6 ht
    have tl := (hSh.2.1 t (List.mem_of_getElem? ht)).2
    have e2 := say_take (w := m.2) hi ht
    refine ⟨_, rfl, _, rfl, a, _, _, _, rfl, rfl, h1, rfl, _, rfl, ps, xs, _, _, rfl, rfl, h3, at_inR (by rw [← h6.length]; exact hir) hvt, bt, _, _, _, rfl, rfl, hbt, rfl, _, _, rfl, rfl, szl (by omega), ?_⟩
    exact ⟨rfl, hkl, ⟨_, by rw [e2]; rfl⟩, by rw [e2, len_app]; omega⟩
  rintro σ _ ⟨rfl, _, ⟨x3, rfl⟩, hlen⟩
  rw [List.length_map, List.take_length] at *
  exact ⟨_, rfl, _, rfl, a, _, _, _, rfl, rfl, h1, rfl, _, rfl, aw, _, _, _, rfl, rfl, w1, rfl, pe, xe, _, _, rfl, rfl, h4, at_inR (by rw [← h7.length]; exact he) hve, be, _, _, _, rfl, rfl, hbe, rfl, _, _, rfl, rfl, szl (by omega), q⟩

theorem sc_law_same : FnScope ["_law_found", "_law_due", "_law_number"] ["_law_found", "_law_due"] (defScope s_law_same) := ⟨rfl, rfl, rfl, by decide +kernel, rfl, by decide +kernel, by decide +kernel⟩
theorem ok_law_same (B : Bi mg) {c_NoWay : Addr} (XB : Xb K mg c_NoWay)  {f : Addr} {fd : FuncData} (F : Fun K "_law_same" "_law_same" s_law_same f fd) : FnOk P w K mg base CX0 1 f fd ["_law_found", "_law_due"] (spSame K) := by
  refine F.ok sc_law_same (fun vs H Q E h => ?_) (fun cdv A outer s H vs Q E hr h => ?_)
  · obtain ⟨fv, dv, rfl, _⟩ := h; rfl
  obtain ⟨fv, dv, rfl, hc, q⟩ := h
  refine ⟨_, (pss_cons (ps_if (pt_cmpR op_isN (pv 1) pe_non (nomark _)) (pss_one (ps_ret (pe_cmpR op_isN (pv 0) pe_non (nomark _)))) pss_nil)
      (pss_cons (ps_if (PW.pt (pw_or (pt_not (pt_val (pe_callB (kCall (K := K) rIsD call_isinstD) (by rfl) B.isinstance bt_isinstance (pa_cons (pv 0) (pa_cons (pe_ty (by rfl) B.tuple bt_tuple) pa_nil))))) (pw_or (pt_cmpR op_ne (pe_callB (kLen (K := K)) (by rfl) B.len bt_len (pa_cons (pv 0) pa_nil)) pe_int (nomark _)) (pw_or1 (pt_not (pt_val (pe_callB (kCall (K := K) rIs call_isinst) (by rfl) B.isinstance bt_isinstance (pa_cons (pe_ix (kIx (K := K) rIxT ix_tup) (pv 0) pe_int (by intro _ _; rfl)) (pa_cons (pe_ty (by rfl) B.list bt_list) pa_nil))))))))) (pss_one (ps_ret pe_bl)) pss_nil)
      (pss_cons (ps_for PassesOwn.never (by rfl) (kPI (K := K) (fun k => iList k _) (pi_list (pe_op op_cat (pe_lst (pa_cons (pe_ix (kIx (K := K) rIxT ix_tup) (pv 0) pe_int (by intro _ _; rfl)) (pa_cons (pe_ix (kIx (K := K) rIxT ix_tup) (pv 0) pe_int (by intro _ _; rfl)) pa_nil))) (pe_ix (kIx (K := K) rIxT ix_tup) (pv 0) pe_int (by intro _ _; rfl))))) (pg_name (i := 2) sc_law_same.nd rfl (Or.inl rfl)) (pss_one (ps_if (PW.pt (pw_or (pt_not (pt_val (pe_callB (kCall (K := K) rIs call_isinst) (by rfl) B.isinstance bt_isinstance (pa_cons (pv 2) (pa_cons (pe_ty (by rfl) B.int bt_int) pa_nil))))) (pw_or1 (pt_val (pe_callB (kCall (K := K) rIs call_isinst) (by rfl) B.isinstance bt_isinstance (pa_cons (pv 2) (pa_cons (pe_ty (by rfl) B.bool bt_bool) pa_nil))))))) (pss_one (ps_ret pe_bl)) pss_nil)))
      (pss_one (ps_ret (pe_cmpR (kOp (K := K) rEqD (op_eqD hr.units)) (pv 0) (pv 1) (nomark _))))))), ?_⟩
  rcases hc with ⟨rfl, rfl⟩ | ⟨y, hF, hD, hl⟩
  · refine ⟨_, rfl, rfl, _, rfl, iteDT rfl ?_⟩
    exact ⟨_, rfl, rfl, q _ (Same.refl _)⟩
  have hr1 := hF.rep
  have hr2 := hD.rep
  obtain ⟨af, pf, rfl, f1, f2⟩ := hF
  obtain ⟨ad, pd, rfl, d1, d2⟩ := hD
  refine ⟨_, rfl, rfl, _, rfl, iteDd (fun c => nomatch c) (fun _ => ?_)⟩
  refine ⟨_, rfl, _, dWy y, "tuple", rfl, hr1, .inl rfl, _, rfl, iteF ?_⟩
  refine ⟨_, rfl, af, _, rfl, .inr f1, rfl, _, rfl, iteNd (fun c => absurd rfl c) (fun _ => ?_)⟩
  refine ⟨_, rfl, _, _, _, _, rfl, rfl, f1, rfl, _, "list", _, _, rfl, TyOf.lst f2, rfl, _, rfl, iteF ?_⟩
  refine ⟨_, rfl, af, _, _, _, rfl, rfl, f1, rfl, _, rfl, af, _, _, _, rfl, rfl, f1, rfl, szl (by simp), fun l hl0 => ?_⟩
  have g1 := same_new hl0 (.lst [V.int y.b, V.int y.e])
  refine ⟨_, rfl, af, _, _, _, rfl, rfl, Same.seqT g1 f1, rfl, l, pf, _, _, rfl, rfl, upd_same, g1 _ _ f2, szl (by simp; omega), fun p hp => ?_⟩
  have g2 := g1.trans (same_new hp (.lst ([V.int y.b, V.int y.e] ++ y.row.map V.int)))
  have ep := upd_same (H := upd H l (.lst [V.int y.b, V.int y.e])) (a := p) (o := .lst ([V.int y.b, V.int y.e] ++ y.row.map V.int))
  generalize upd (upd H l (.lst [V.int y.b, V.int y.e])) p (.lst ([V.int y.b, V.int y.e] ++ y.row.map V.int)) = H2 at g2 ep ⊢
  refine ⟨p, rfl, ⟨_, SqL.of ep⟩, ?_⟩
  refine for_list (xs := (y.b :: y.e :: y.row).map V.int) (fun i σ H' => H2 = H' ∧ ∃ x, σ = [some (.ref af), some (.ref ad), x]) ⟨rfl, _, rfl⟩ (fun i σ H' _ z => z.1 ▸ SqL.of ep) ?_ ?_
  · rintro i x σ _ hx ⟨rfl, x2, rfl⟩
    rw [List.getElem?_map] at hx
    obtain ⟨n, _, rfl⟩ := Option.map_eq_some_iff.mp hx
    refine ⟨_, rfl, _, "int", _, _, rfl, TyOf.int _, is_int, _, rfl, iteF ?_⟩
    exact ⟨_, rfl, _, "bool", _, _, rfl, TyOf.int _, is_intb, _, rfl, iteF ⟨rfl, _, rfl⟩⟩
  rintro σ _ ⟨rfl, x2, rfl⟩
  refine ⟨_, rfl, _, rfl, dWy y, dWy y, hr1.mono g2, hr2.mono g2, Nat.le_trans (deep_dWy y) (by decide), ?_⟩
  rw [eqD_refl]
  exact q _ g2

theorem sc_law_farther : FnScope ["_law_scribe_here", "_law_far", "_law_signs", "_law_rooms", "_law_begins", "_law_steps", "_law_ends", "_law_outs", "_law_first_here"] ["_law_scribe_here", "_law_far"] (defScope s_law_farther) := ⟨rfl, rfl, rfl, by decide +kernel, rfl, by decide +kernel, by decide +kernel⟩
theorem ok_law_farther (B : Bi mg) {c_NoWay : Addr} (XB : Xb K mg c_NoWay)  {f : Addr} {fd : FuncData} (F : Fun K "_law_farther" "_law_farther" s_law_farther f fd) : FnOk P w K mg base CX0 1 f fd ["_law_scribe_here", "_law_far"] (spFar K) := by
  refine F.ok sc_law_farther (fun vs H Q E h => ?_) (fun cdv A outer s H vs Q E hr h => ?_)
  · obtain ⟨v, s, pb, ps, pe, f, rfl, _⟩ := h; rfl
  obtain ⟨v, s, pb, ps, pe, f, rfl, hV, l1, l2, l3, q⟩ := h
  refine ⟨_, (pss_cons (ps_asg (pv 0) (kPG (K := K) (fun k => gTup k 5 _) (pg_tup (n := 5) (by rfl) (pgs_cons (pg_name (i := 2) sc_law_farther.nd rfl (Or.inl rfl)) (pgs_cons (pg_name (i := 3) sc_law_farther.nd rfl (Or.inl rfl)) (pgs_cons (pg_name (i := 4) sc_law_farther.nd rfl (Or.inl rfl)) (pgs_cons (pg_name (i := 5) sc_law_farther.nd rfl (Or.inl rfl)) (pgs_cons (pg_name (i := 6) sc_law_farther.nd rfl (Or.inl rfl)) pgs_nil))))))))
      (pss_cons (ps_compset (i := 7) sc_law_farther.nd rfl (Or.inl rfl) (by rfl) (by rfl) (blk_mk (N' := ["_law_step", "_law_far"]) (js := [none, some 1]) rfl (by decide +kernel) rfl (by decide +kernel) rfl rfl) (kPI (K := K) (fun k => iList k _) (pi_list (pv 5))) (fun _ _ _ _ _ => (pg_name (i := 0) (show List.Nodup (["_law_step", "_law_far"] : List Str) by decide +kernel) rfl (Or.inl rfl))) (fun _ _ _ _ _ => pf_nil) (fun _ _ _ _ _ => (pe_tup (pa_cons (pe_op op_add (pe_ix (kIx (K := K) rIxT ix_tup) (pv 0) pe_int (by intro _ _; rfl)) (pv 1)) (pa_cons (pe_ix (kIx (K := K) rIxT ix_tup) (pv 0) pe_int (by intro _ _; rfl)) (pa_cons (pe_ix (kIx (K := K) rIxT ix_tup) (pv 0) pe_int (by intro _ _; rfl)) (pa_cons (pe_op op_add (pe_ix (kIx (K := K) rIxT ix_tup) (pv 0) pe_int (by intro _ _; rfl)) (pv 1)) pa_nil)))))))
      (pss_cons (ps_compset (i := 8) sc_law_farther.nd rfl (Or.inl rfl) (by rfl) (by rfl) (blk_mk (N' := ["_law_room", "_law_word_here", "_law_far"]) (js := [none, none, some 1]) rfl (by decide +kernel) rfl (by decide +kernel) rfl rfl) (kPI (K := K) (fun k => iList k _) (pi_list (pv 4))) (fun _ _ _ _ _ => (kPG (K := K) (fun k => gTup k 2 _) (pg_tup (n := 2) (by rfl) (pgs_cons (pg_name (i := 0) (show List.Nodup (["_law_room", "_law_word_here", "_law_far"] : List Str) by decide +kernel) rfl (Or.inl rfl)) (pgs_cons (pg_name (i := 1) (show List.Nodup (["_law_room", "_law_word_here", "_law_far"] : List Str) by decide +kernel) rfl (Or.inl rfl)) pgs_nil))))) (fun _ _ _ _ _ => pf_nil) (fun _ _ _ _ _ => (pe_tup (pa_cons (pe_op op_add (pv 0) (pv 2)) (pa_cons (pv 1) pa_nil)))))
      (pss_one (ps_ret (pe_tup (pa_cons (pv 2) (pa_cons (pe_op op_add (pv 3) (pv 1)) (pa_cons (pv 8) (pa_cons (pv 7) (pa_cons (pe_comp rfl (blk_mk (N' := ["_law_room", "_law_word_here", "_law_far"]) (js := [none, none, some 1]) rfl (by decide +kernel) rfl (by decide +kernel) rfl rfl) (kPI (K := K) (fun k => iList k _) (pi_list (pv 6))) (fun _ _ _ _ _ => (kPG (K := K) (fun k => gTup k 2 _) (pg_tup (n := 2) (by rfl) (pgs_cons (pg_name (i := 0) (show List.Nodup (["_law_room", "_law_word_here", "_law_far"] : List Str) by decide +kernel) rfl (Or.inl rfl)) (pgs_cons (pg_name (i := 1) (show List.Nodup (["_law_room", "_law_word_here", "_law_far"] : List Str) by decide +kernel) rfl (Or.inl rfl)) pgs_nil))))) (fun _ _ _ _ _ => pf_nil) (fun _ _ _ _ _ => (pe_tup (pa_cons (pe_op op_add (pv 0) (pv 2)) (pa_cons (pv 1) pa_nil))))) pa_nil))))))))))), ?_⟩
  obtain ⟨a, xb, xs, xe, rfl, h1, h2, h3, h4, h5, h6, h7⟩ := hV
  refine ⟨_, rfl, a, _, rfl, h1, rfl, _, _, rfl, _, _, rfl, _, _, rfl, _, _, rfl, _, _, rfl, rfl, ?_⟩
  refine ⟨_, rfl, ps, rfl, ⟨xs, h3⟩, ?_⟩
  refine comp_list (xs := xs) (fun i ys τ H' => Same H H' ∧ (∃ x, τ = [x, some (.int f)]) ∧ i ≤ xs.length ∧ Paired (StV K H') ((s.steps.take i).map (farT f)) ys) ⟨Same.refl _, ⟨_, rfl⟩, Nat.zero_le _, .nil⟩ (fun i ys τ H' z => z.1.seq h3) ?_ ?_
  · rintro i x ys τ H' hx ⟨g', ⟨x0, rfl⟩, hi, hP⟩
    obtain ⟨m, hm, b, rfl, hb⟩ := paired_get h6 hx
    have hil : i < xs.length := (List.getElem?_eq_some_iff.mp hx).1
    have hll : xs.length ≤ 99 := by rw [← h6.length]; exact l2
    have hb1 := (Same.grow g').seqT hb
    have hyl : ys.length ≤ 99 := by rw [← hP.length, List.length_map, List.length_take]; omega
    refine ⟨_, rfl, b, _, _, _, rfl, rfl, hb1, rfl, _, rfl, _, _, rfl, rfl, _, rfl, b, _, _, _, rfl, rfl, hb1, rfl, _, rfl, b, _, _, _, rfl, rfl, hb1, rfl, _, rfl, b, _, _, _, rfl, rfl, hb1, rfl, _, rfl, _, _, rfl, rfl, (by show 4 ≤ sizeLine; decide), fun p hp => ⟨szl' (by omega), g'.trans (same_new hp _), ⟨_, rfl⟩, hil, ?_⟩⟩
    rw [take_get hm, List.map_append]
    exact paired_append (paired_mono (fun _ _ => StV.mono (grow_new hp _)) hP) (.cons ⟨p, rfl, SqT.of upd_same⟩ .nil)
  rintro fsy τ fsH ⟨gfs, _, _, hPfs⟩ fs hfs
  rw [← h6.length, List.take_length] at hPfs
  have kfs := same_new hfs (.lst fsy)
  have efs := upd_same (H := fsH) (a := fs) (o := .lst fsy)
  have gfs := gfs.trans kfs
  have hPfs := paired_mono (fun _ _ => StV.mono (Same.grow kfs)) hPfs
  generalize upd fsH fs (.lst fsy) = fsK at efs gfs hPfs ⊢
  have h5a := paired_mono (fun _ _ => MkV.mono (Same.grow gfs)) h5
  
  refine ⟨_, rfl, pb, rfl, ⟨xb, gfs.seq h2⟩, ?_⟩
  refine comp_list (xs := xb) (fun i ys τ H' => Same fsK H' ∧ (∃ x y, τ = [x, y, some (.int f)]) ∧ i ≤ xb.length ∧ Paired (MkV K H') ((s.begins.take i).map (farM f)) ys) ⟨Same.refl _, ⟨_, _, rfl⟩, Nat.zero_le _, .nil⟩ (fun i ys τ H' z => z.1.seq (gfs.seq h2)) ?_ ?_
  · rintro i x ys τ H' hx ⟨g', ⟨x0, y0, rfl⟩, hi, hP⟩
    obtain ⟨m, hm, b, rfl, hb⟩ := paired_get h5a hx
    have hil : i < xb.length := (List.getElem?_eq_some_iff.mp hx).1
    have hll : xb.length ≤ 99 := by rw [← h5a.length]; exact l1
    have hb1 := (Same.grow g').seqT hb
    have hyl : ys.length ≤ 99 := by rw [← hP.length, List.length_map, List.length_take]; omega
    refine ⟨b, _, rfl, hb1, rfl, _, _, rfl, _, _, rfl, rfl, ?_⟩
    refine ⟨_, rfl, _, rfl, _, _, rfl, rfl, _, rfl, (by show 2 ≤ sizeLine; decide), fun p hp => ⟨szl' (by omega), g'.trans (same_new hp _), ⟨_, _, rfl⟩, hil, ?_⟩⟩
    rw [take_get hm, List.map_append]
    exact paired_append (paired_mono (fun _ _ => MkV.mono (grow_new hp _)) hP) (.cons ⟨p, rfl, SqT.of upd_same⟩ .nil)
  rintro fby τ fbH ⟨gfb, _, _, hPfb⟩ fb hfb
  rw [← h5a.length, List.take_length] at hPfb
  have kfb := same_new hfb (.lst fby)
  have efb := upd_same (H := fbH) (a := fb) (o := .lst fby)
  have gfb := gfb.trans kfb
  have hPfb := paired_mono (fun _ _ => MkV.mono (Same.grow kfb)) hPfb
  generalize upd fbH fb (.lst fby) = fbK at efb gfb hPfb ⊢
  
  have g2 := gfs.trans gfb
  have h7a := paired_mono (fun _ _ => MkV.mono (Same.grow g2)) h7
  refine ⟨_, rfl, _, rfl, _, rfl, _, _, rfl, rfl, _, rfl, _, rfl, ?_⟩
  
  refine ⟨_, rfl, pe, rfl, ⟨xe, g2.seq h4⟩, ?_⟩
  refine comp_list (xs := xe) (fun i ys τ H' => Same fbK H' ∧ (∃ x y, τ = [x, y, some (.int f)]) ∧ i ≤ xe.length ∧ Paired (MkV K H') ((s.ends.take i).map (farM f)) ys) ⟨Same.refl _, ⟨_, _, rfl⟩, Nat.zero_le _, .nil⟩ (fun i ys τ H' z => z.1.seq (g2.seq h4)) ?_ ?_
  · rintro i x ys τ H' hx ⟨g', ⟨x0, y0, rfl⟩, hi, hP⟩
    obtain ⟨m, hm, b, rfl, hb⟩ := paired_get h7a hx
    have hil : i < xe.length := (List.getElem?_eq_some_iff.mp hx).1
    have hll : xe.length ≤ 99 := by rw [← h7a.length]; exact l3
    have hb1 := (Same.grow g').seqT hb
    have hyl : ys.length ≤ 99 := by rw [← hP.length, List.length_map, List.length_take]; omega
    refine ⟨b, _, rfl, hb1, rfl, _, _, rfl, _, _, rfl, rfl, ?_⟩
    refine ⟨_, rfl, _, rfl, _, _, rfl, rfl, _, rfl, (by show 2 ≤ sizeLine; decide), fun p hp => ⟨szl' (by omega), g'.trans (same_new hp _), ⟨_, _, rfl⟩, hil, ?_⟩⟩
    rw [take_get hm, List.map_append]
    exact paired_append (paired_mono (fun _ _ => MkV.mono (grow_new hp _)) hP) (.cons ⟨p, rfl, SqT.of upd_same⟩ .nil)
  rintro fey τ feH ⟨gfe, _, _, hPfe⟩ fe hfe
  rw [← h7a.length, List.take_length] at hPfe
  have kfe := same_new hfe (.lst fey)
  have efe := upd_same (H := feH) (a := fe) (o := .lst fey)
  have gfe := gfe.trans kfe
  have hPfe := paired_mono (fun _ _ => MkV.mono (Same.grow kfe)) hPfe
  generalize upd feH fe (.lst fey) = feK at efe gfe hPfe ⊢
  
  refine ⟨(by show 5 ≤ sizeLine; decide), fun v hv => ?_⟩
  have gv := same_new hv (.tup [V.str s.signs, V.int (s.rooms + f), V.ref fb, V.ref fs, V.ref fe])
  have g3 := gfe.trans gv
  have g4 := gfb.trans g3
  exact q _ _ fb fs fe (g2.trans g3) ⟨v, fby, fsy, fey, rfl, SqT.of upd_same, SqL.of (g3 _ _ efb), SqL.of (g4 _ _ efs), SqL.of (gv _ _ efe), paired_mono (fun _ _ => MkV.mono (Same.grow g3)) hPfb, paired_mono (fun _ _ => StV.mono (Same.grow g4)) hPfs, paired_mono (fun _ _ => MkV.mono (Same.grow gv)) hPfe⟩

theorem sc_law_long : FnScope ["_law_script", "_law_cell", "_law_steps", "_law_scribe_here", "_law_text_here"] ["_law_script"] (defScope s_law_long) := ⟨rfl, rfl, rfl, by decide +kernel, rfl, by decide +kernel, by decide +kernel⟩
theorem ok_law_long (B : Bi mg) {c_NoWay : Addr} (XB : Xb K mg c_NoWay) (C_law_cell_at : Cal P w K mg base "_law_cell_at" ["_law_script", "_law_k"] 1 (spCell K)) (C_law_same : Cal P w K mg base "_law_same" ["_law_found", "_law_due"] 1 (spSame K)) (C_first_way : Cal P w K mg base "first_way" ["scribe", "text"] 4 (spFW K)) (C_law_first : Cal P w K mg base "_law_first" ["_law_scribe_here", "_law_text_here"] 2 (spFirst K)) {f : Addr} {fd : FuncData} (F : Fun K "_law_long" "_law_long" s_law_long f fd) : FnOk P w K mg base CX0 5 f fd ["_law_script"] (spLong K) := by
  refine F.ok sc_law_long (fun vs H Q E h => ?_) (fun cdv A outer s H vs Q E hr h => ?_)
  · obtain ⟨a, ns, rfl, _⟩ := h; rfl
  obtain ⟨a, ns, rfl, hS, q⟩ := h
  refine ⟨_, (pss_cons (ps_set (i := 1) sc_law_long.nd rfl (Or.inl rfl) (pe_fn C_law_cell_at hr (by decide : 1 ≤ 4) (by rfl) (pa_cons (pv 0) (pa_cons pe_int pa_nil))))
      (pss_cons (ps_set (i := 2) sc_law_long.nd rfl (Or.inl rfl) (pe_lst (pa_cons (pe_tup (pa_cons pe_int (pa_cons pe_str (pa_cons pe_str (pa_cons pe_int pa_nil))))) (pa_cons (pe_tup (pa_cons pe_int (pa_cons pe_str (pa_cons pe_str (pa_cons pe_int pa_nil))))) (pa_cons (pe_tup (pa_cons pe_int (pa_cons pe_str (pa_cons pe_str (pa_cons pe_int pa_nil))))) (pa_cons (pe_tup (pa_cons pe_int (pa_cons pe_str (pa_cons pe_str (pa_cons pe_int pa_nil))))) pa_nil))))))
      (pss_cons (ps_expr (kPE (K := K) (fun k => tBM k _ _ _ _) (pe_bm PySem.F.plainAttrs_list PySem.F.slot_list_insert PySem.F.type_list_insert mt_insert (pv 2) (pa_cons (pe_op op_mod (pe_op op_fdiv (pv 1) pe_int) pe_int) (pa_cons (pe_tup (pa_cons (pe_op op_mod (pe_op op_fdiv (pv 1) pe_int) pe_int) (pa_cons pe_str (pa_cons pe_str (pa_cons pe_int pa_nil))))) pa_nil)))))
      (pss_cons (ps_set (i := 3) sc_law_long.nd rfl (Or.inl rfl) (pe_tup (pa_cons pe_str (pa_cons pe_int (pa_cons (pe_lst (pa_cons (pe_tup (pa_cons pe_int (pa_cons pe_str pa_nil))) (pa_cons (pe_tup (pa_cons pe_int (pa_cons pe_str pa_nil))) pa_nil))) (pa_cons (pe_slice (kSl (K := K) rSlL sl_list) (pv 2) (po_some (pe_op op_mod (pe_op op_fdiv (pv 1) pe_int) pe_int)) po_none) (pa_cons (pe_slice (kSl (K := K) rSlL sl_list) (pe_lst (pa_cons (pe_tup (pa_cons pe_int (pa_cons pe_str pa_nil))) pa_nil)) po_none (po_some (pe_op op_mod (pv 1) pe_int))) pa_nil)))))))
      (pss_cons (ps_set (i := 4) sc_law_long.nd rfl (Or.inl rfl) (pe_op op_add_str (pe_op op_mul_str pe_str (pe_op op_add pe_int (pe_op op_mod (pe_op op_fdiv (pv 1) pe_int) pe_int))) pe_str))
      (pss_one (ps_ret (pe_fn C_law_same hr (by decide : 1 ≤ 4) (by rfl) (pa_cons (pe_fn C_first_way hr (by decide : 4 ≤ 4) (by rfl) (pa_cons (pv 3) (pa_cons (pv 4) pa_nil))) (pa_cons (pe_fn C_law_first hr (by decide : 2 ≤ 4) (by rfl) (pa_cons (pv 3) (pa_cons (pv 4) pa_nil))) pa_nil)))))))))), ?_⟩
  refine ⟨_, rfl, a, ns, 42, rfl, hS, by decide, ?_⟩
  generalize cellAt ns 42 = c
  have d5 : 0 ≤ c / 2 % 5 ∧ c / 2 % 5 < 5 := ⟨Int.emod_nonneg _ (by decide), Int.emod_lt_of_pos _ (by decide)⟩
  have d2 : 0 ≤ c / 10 % 2 ∧ c / 10 % 2 < 2 := ⟨Int.emod_nonneg _ (by decide), Int.emod_lt_of_pos _ (by decide)⟩
  have d3 : 0 ≤ c / 40 % 3 ∧ c / 40 % 3 < 3 := ⟨Int.emod_nonneg _ (by decide), Int.emod_lt_of_pos _ (by decide)⟩
  refine ⟨(by show 4 ≤ sizeLine; decide), fun p1 hp1 => ?_⟩
  have k1 := same_new hp1 (.tup [V.int 0, V.str "a", V.str "x", V.int 0])
  have e1 := upd_same (H := H) (a := p1) (o := (.tup [V.int 0, V.str "a", V.str "x", V.int 0]))
  have g1 := k1
  generalize upd H p1 (.tup [V.int 0, V.str "a", V.str "x", V.int 0]) = H1 at e1 g1 ⊢
  refine ⟨(by show 4 ≤ sizeLine; decide), fun p2 hp2 => ?_⟩
  have k2 := same_new hp2 (.tup [V.int 0, V.str "a", V.str "", V.int 1])
  have e2 := upd_same (H := H1) (a := p2) (o := (.tup [V.int 0, V.str "a", V.str "", V.int 1]))
  have e1 := k2 _ _ e1
  have g2 := g1.trans k2
  generalize upd H1 p2 (.tup [V.int 0, V.str "a", V.str "", V.int 1]) = H2 at e1 e2 g2 ⊢
  refine ⟨(by show 4 ≤ sizeLine; decide), fun p3 hp3 => ?_⟩
  have k3 := same_new hp3 (.tup [V.int 1, V.str "a", V.str "", V.int 0])
  have e3 := upd_same (H := H2) (a := p3) (o := (.tup [V.int 1, V.str "a", V.str "", V.int 0]))
  have e1 := k3 _ _ e1
  have e2 := k3 _ _ e2
  have g3 := g2.trans k3
  generalize upd H2 p3 (.tup [V.int 1, V.str "a", V.str "", V.int 0]) = H3 at e1 e2 e3 g3 ⊢
  refine ⟨(by show 4 ≤ sizeLine; decide), fun p4 hp4 => ?_⟩
  have k4 := same_new hp4 (.tup [V.int 1, V.str "a", V.str "y", V.int 1])
  have e4 := upd_same (H := H3) (a := p4) (o := (.tup [V.int 1, V.str "a", V.str "y", V.int 1]))
  have e1 := k4 _ _ e1
  have e2 := k4 _ _ e2
  have e3 := k4 _ _ e3
  have g4 := g3.trans k4
  generalize upd H3 p4 (.tup [V.int 1, V.str "a", V.str "y", V.int 1]) = H4 at e1 e2 e3 e4 g4 ⊢
  refine ⟨szl (by simp), fun l hl => ?_⟩
  have k5 := same_new hl (.lst [V.ref p1, V.ref p2, V.ref p3, V.ref p4])
  have el := upd_same (H := H4) (a := l) (o := .lst [V.ref p1, V.ref p2, V.ref p3, V.ref p4])
  have e1 := k5 _ _ e1
  have e2 := k5 _ _ e2
  have e3 := k5 _ _ e3
  have e4 := k5 _ _ e4
  have hlH : H l = none := g4.free hl
  have g5 := g4.trans k5
  generalize upd H4 l (.lst [V.ref p1, V.ref p2, V.ref p3, V.ref p4]) = H5 at e1 e2 e3 e4 el g5 ⊢
  refine ⟨_, rfl, .inl ⟨rfl, _, SqL.of el⟩, _, rfl, _, _, rfl, rfl, ⟨by decide, by decide⟩, _, _, rfl, rfl, (by show (0 : Int) < 5; decide), _, rfl, _, _, rfl, rfl, ⟨by decide, by decide⟩, _, _, rfl, rfl, (by show (0 : Int) < 2; decide), (by show 4 ≤ sizeLine; decide), fun p5 hp5 => ?_⟩
  have k6 := same_new hp5 (.tup [V.int (c / 10 % 2), V.str "b", V.str "", V.int 2])
  have e5 := upd_same (H := H5) (a := p5) (o := .tup [V.int (c / 10 % 2), V.str "b", V.str "", V.int 2])
  have e1 := k6 _ _ e1
  have e2 := k6 _ _ e2
  have e3 := k6 _ _ e3
  have e4 := k6 _ _ e4
  have el := k6 _ _ el
  have g6 := g5.trans k6
  try dsimp only at hp5 ⊢
  generalize upd H5 p5 (.tup [V.int (c / 10 % 2), V.str "b", V.str "", V.int 2]) = H6 at e1 e2 e3 e4 e5 el g6 ⊢
  refine ⟨l, _, _, _, rfl, rfl, el, ⟨by omega, by omega⟩, szl' (by simp), ?_⟩
  have ne : ∀ {b : Addr} {xs : List V}, H6 b = some (.tup xs) → b ≠ l := fun h z => by rw [z, el] at h; cases h
  generalize insAt [V.ref p1, V.ref p2, V.ref p3, V.ref p4].length (c / 2 % 5) = kk
  have g7 := same_updN g6 hlH (o := .lst ([V.ref p1, V.ref p2, V.ref p3, V.ref p4].take kk ++ V.ref p5 :: [V.ref p1, V.ref p2, V.ref p3, V.ref p4].drop kk))
  have el7 := upd_same (H := H6) (a := l) (o := .lst ([V.ref p1, V.ref p2, V.ref p3, V.ref p4].take kk ++ V.ref p5 :: [V.ref p1, V.ref p2, V.ref p3, V.ref p4].drop kk))
  have e1 := (upd_ne (ne e1) (o := .lst ([V.ref p1, V.ref p2, V.ref p3, V.ref p4].take kk ++ V.ref p5 :: [V.ref p1, V.ref p2, V.ref p3, V.ref p4].drop kk))).trans e1
  have e2 := (upd_ne (ne e2) (o := .lst ([V.ref p1, V.ref p2, V.ref p3, V.ref p4].take kk ++ V.ref p5 :: [V.ref p1, V.ref p2, V.ref p3, V.ref p4].drop kk))).trans e2
  have e3 := (upd_ne (ne e3) (o := .lst ([V.ref p1, V.ref p2, V.ref p3, V.ref p4].take kk ++ V.ref p5 :: [V.ref p1, V.ref p2, V.ref p3, V.ref p4].drop kk))).trans e3
  have e4 := (upd_ne (ne e4) (o := .lst ([V.ref p1, V.ref p2, V.ref p3, V.ref p4].take kk ++ V.ref p5 :: [V.ref p1, V.ref p2, V.ref p3, V.ref p4].drop kk))).trans e4
  have e5 := (upd_ne (ne e5) (o := .lst ([V.ref p1, V.ref p2, V.ref p3, V.ref p4].take kk ++ V.ref p5 :: [V.ref p1, V.ref p2, V.ref p3, V.ref p4].drop kk))).trans e5
  generalize upd H6 l (.lst ([V.ref p1, V.ref p2, V.ref p3, V.ref p4].take kk ++ V.ref p5 :: [V.ref p1, V.ref p2, V.ref p3, V.ref p4].drop kk)) = H7 at e1 e2 e3 e4 e5 el7 g7 ⊢
  have hT : Paired (StV K H7) [((0 : Int), ("a" : Str), ("x" : Str), (0 : Int)), (0, "a", "", 1), (1, "a", "", 0), (1, "a", "y", 1)] [V.ref p1, V.ref p2, V.ref p3, V.ref p4] := .cons ⟨p1, rfl, SqT.of e1⟩ (.cons ⟨p2, rfl, SqT.of e2⟩ (.cons ⟨p3, rfl, SqT.of e3⟩ (.cons ⟨p4, rfl, SqT.of e4⟩ .nil)))
  have hT := paired_insT kk hT (x := ((c / 10 % 2 : Int), ("b" : Str), ("" : Str), (2 : Int))) (y := V.ref p5) ⟨p5, rfl, SqT.of e5⟩
  have hTm : ∀ t ∈ [((0 : Int), ("a" : Str), ("x" : Str), (0 : Int)), (0, "a", "", 1), (1, "a", "", 0), (1, "a", "y", 1)].take kk ++ ((c / 10 % 2 : Int), ("b" : Str), ("" : Str), (2 : Int)) :: [((0 : Int), ("a" : Str), ("x" : Str), (0 : Int)), (0, "a", "", 1), (1, "a", "", 0), (1, "a", "y", 1)].drop kk, (0 ≤ t.1 ∧ t.1 < 3) ∧ 0 ≤ t.2.2.2 ∧ t.2.2.2 < 3 := fun t ht => by
    have ht : t = ((c / 10 % 2 : Int), ("b" : Str), ("" : Str), (2 : Int)) ∨ t ∈ [((0 : Int), ("a" : Str), ("x" : Str), (0 : Int)), (0, "a", "", 1), (1, "a", "", 0), (1, "a", "y", 1)] := by
      rcases List.mem_append.mp ht with z | z
      · exact .inr (List.mem_of_mem_take z)
      · rcases List.mem_cons.mp z with z | z
        · exact .inl z
        · exact .inr (List.mem_of_mem_drop z)
    rcases ht with rfl | ht
    · exact ⟨⟨d2.1, by show c / 10 % 2 < 3; omega⟩, by show (0 : Int) ≤ 2; decide, by show (2 : Int) < 3; decide⟩
    · simp only [List.mem_cons, List.not_mem_nil, or_false] at ht
      rcases ht with rfl | rfl | rfl | rfl <;> exact ⟨⟨by decide, by decide⟩, by decide, by decide⟩
  have hTl : ([((0 : Int), ("a" : Str), ("x" : Str), (0 : Int)), (0, "a", "", 1), (1, "a", "", 0), (1, "a", "y", 1)].take kk ++ ((c / 10 % 2 : Int), ("b" : Str), ("" : Str), (2 : Int)) :: [((0 : Int), ("a" : Str), ("x" : Str), (0 : Int)), (0, "a", "", 1), (1, "a", "", 0), (1, "a", "y", 1)].drop kk).length ≤ 9 := by
    rw [List.length_append, List.length_cons, List.length_take, List.length_drop]; simp; omega
  generalize ([((0 : Int), ("a" : Str), ("x" : Str), (0 : Int)), (0, "a", "", 1), (1, "a", "", 0), (1, "a", "y", 1)].take kk ++ ((c / 10 % 2 : Int), ("b" : Str), ("" : Str), (2 : Int)) :: [((0 : Int), ("a" : Str), ("x" : Str), (0 : Int)), (0, "a", "", 1), (1, "a", "", 0), (1, "a", "y", 1)].drop kk) = TT at hT hTm hTl
  generalize ([V.ref p1, V.ref p2, V.ref p3, V.ref p4].take kk ++ V.ref p5 :: [V.ref p1, V.ref p2, V.ref p3, V.ref p4].drop kk) = YY at hT el7
  clear e1 e2 e3 e4 e5
  refine ⟨(by show 2 ≤ sizeLine; decide), fun b1 hb1 => ?_⟩
  have j1 := same_new hb1 (.tup [V.int 1, V.str ""])
  have f1 := upd_same (H := H7) (a := b1) (o := .tup [V.int 1, V.str ""])
  have hT := paired_mono (fun _ _ => StV.mono (Same.grow j1)) hT
  have el8 := j1 _ _ el7
  have g8 := g7.trans j1
  generalize upd H7 b1 (.tup [V.int 1, V.str ""]) = H8 at f1 hT el8 g8 ⊢
  refine ⟨(by show 2 ≤ sizeLine; decide), fun b2 hb2 => ?_⟩
  have j2 := same_new hb2 (.tup [V.int 0, V.str ""])
  have f2 := upd_same (H := H8) (a := b2) (o := .tup [V.int 0, V.str ""])
  have f1 := j2 _ _ f1
  have hT := paired_mono (fun _ _ => StV.mono (Same.grow j2)) hT
  have el9 := j2 _ _ el8
  have g9 := g8.trans j2
  generalize upd H8 b2 (.tup [V.int 0, V.str ""]) = H9 at f1 f2 hT el9 g9 ⊢
  refine ⟨szl (by simp), fun lb hlb => ?_⟩
  have j3 := same_new hlb (.lst [V.ref b1, V.ref b2])
  have eb := upd_same (H := H9) (a := lb) (o := .lst [V.ref b1, V.ref b2])
  have f1 := j3 _ _ f1
  have f2 := j3 _ _ f2
  have hT := paired_mono (fun _ _ => StV.mono (Same.grow j3)) hT
  have el10 := j3 _ _ el9
  have g10 := g9.trans j3
  generalize upd H9 lb (.lst [V.ref b1, V.ref b2]) = H10 at f1 f2 eb hT el10 g10 ⊢
  refine ⟨_, rfl, _, rfl, _, _, rfl, rfl, ⟨by decide, by decide⟩, _, _, rfl, rfl, (by show (0 : Int) < 2; decide), _, rfl, l, YY, rfl, SqL.of el10, fun lt hlt => ?_⟩
  have j4 := same_new hlt (.lst (cutV YY (some (c / 20 % 2)) none))
  have et := upd_same (H := H10) (a := lt) (o := .lst (cutV YY (some (c / 20 % 2)) none))
  have f1 := j4 _ _ f1
  have f2 := j4 _ _ f2
  have eb := j4 _ _ eb
  have hT := paired_mono (fun _ _ => StV.mono (Same.grow j4)) hT
  have g11 := g10.trans j4
  try dsimp only at hlt ⊢
  generalize upd H10 lt (.lst (cutV YY (some (c / 20 % 2)) none)) = H11 at f1 f2 eb et hT g11 ⊢
  have hTc : Paired (StV K H11) (cutT TT (HT.sIx YY.length 0 (some (c / 20 % 2))) (HT.sIx YY.length YY.length none - HT.sIx YY.length 0 (some (c / 20 % 2)))) (cutV YY (some (c / 20 % 2)) none) := paired_take _ (paired_drop _ hT)
  have hTm2 : ∀ t ∈ cutT TT (HT.sIx YY.length 0 (some (c / 20 % 2))) (HT.sIx YY.length YY.length none - HT.sIx YY.length 0 (some (c / 20 % 2))), (0 ≤ t.1 ∧ t.1 < 3) ∧ 0 ≤ t.2.2.2 ∧ t.2.2.2 < 3 := fun t ht => hTm t (mem_cutT ht)
  have hTl2 := Nat.le_trans (len_cutT TT (HT.sIx YY.length 0 (some (c / 20 % 2))) (HT.sIx YY.length YY.length none - HT.sIx YY.length 0 (some (c / 20 % 2)))) hTl
  generalize cutT TT (HT.sIx YY.length 0 (some (c / 20 % 2))) (HT.sIx YY.length YY.length none - HT.sIx YY.length 0 (some (c / 20 % 2))) = SS at hTc hTm2 hTl2
  generalize cutV YY (some (c / 20 % 2)) none = ZZ at hTc et
  refine ⟨(by show 2 ≤ sizeLine; decide), fun b3 hb3 => ?_⟩
  have j5 := same_new hb3 (.tup [V.int 2, V.str ""])
  have f3 := upd_same (H := H11) (a := b3) (o := .tup [V.int 2, V.str ""])
  have f1 := j5 _ _ f1
  have f2 := j5 _ _ f2
  have eb := j5 _ _ eb
  have et := j5 _ _ et
  have hTc := paired_mono (fun _ _ => StV.mono (Same.grow j5)) hTc
  have g12 := g11.trans j5
  generalize upd H11 b3 (.tup [V.int 2, V.str ""]) = H12 at f1 f2 f3 eb et hTc g12 ⊢
  refine ⟨szl (by simp), fun l0 hl0 => ?_⟩
  have j6 := same_new hl0 (.lst [V.ref b3])
  have e0 := upd_same (H := H12) (a := l0) (o := .lst [V.ref b3])
  have f1 := j6 _ _ f1
  have f2 := j6 _ _ f2
  have f3 := j6 _ _ f3
  have eb := j6 _ _ eb
  have et := j6 _ _ et
  have hTc := paired_mono (fun _ _ => StV.mono (Same.grow j6)) hTc
  have g13 := g12.trans j6
  generalize upd H12 l0 (.lst [V.ref b3]) = H13 at f1 f2 f3 eb et e0 hTc g13 ⊢
  refine ⟨_, rfl, _, _, rfl, rfl, (by show (0 : Int) < 3; decide), _, rfl, l0, _, rfl, SqL.of e0, fun le hle => ?_⟩
  have j7 := same_new hle (.lst (cutV [V.ref b3] none (some (c % 3))))
  have ee := upd_same (H := H13) (a := le) (o := .lst (cutV [V.ref b3] none (some (c % 3))))
  have f1 := j7 _ _ f1
  have f2 := j7 _ _ f2
  have f3 := j7 _ _ f3
  have eb := j7 _ _ eb
  have et := j7 _ _ et
  have hTc := paired_mono (fun _ _ => StV.mono (Same.grow j7)) hTc
  have g14 := g13.trans j7
  try dsimp only at hle ⊢
  generalize upd H13 le (.lst (cutV [V.ref b3] none (some (c % 3)))) = H14 at f1 f2 f3 eb et ee hTc g14 ⊢
  have hEc : Paired (MkV K H14) (cutT [((2 : Int), ("" : Str))] (HT.sIx [V.ref b3].length 0 none) (HT.sIx [V.ref b3].length [V.ref b3].length (some (c % 3)) - HT.sIx [V.ref b3].length 0 none)) (cutV [V.ref b3] none (some (c % 3))) := paired_take _ (paired_drop _ (.cons ⟨b3, rfl, SqT.of f3⟩ .nil))
  have hEm : ∀ m ∈ cutT [((2 : Int), ("" : Str))] (HT.sIx [V.ref b3].length 0 none) (HT.sIx [V.ref b3].length [V.ref b3].length (some (c % 3)) - HT.sIx [V.ref b3].length 0 none), m.1 = 2 := fun m hm => by
    have := mem_cutT hm
    rw [List.mem_singleton] at this
    rw [this]
  have hEl := len_cutT [((2 : Int), ("" : Str))] (HT.sIx [V.ref b3].length 0 none) (HT.sIx [V.ref b3].length [V.ref b3].length (some (c % 3)) - HT.sIx [V.ref b3].length 0 none)
  generalize cutT [((2 : Int), ("" : Str))] (HT.sIx [V.ref b3].length 0 none) (HT.sIx [V.ref b3].length [V.ref b3].length (some (c % 3)) - HT.sIx [V.ref b3].length 0 none) = EE at hEc hEm hEl
  generalize cutV [V.ref b3] none (some (c % 3)) = WW at hEc ee
  have hEl : EE.length ≤ 1 := hEl
  refine ⟨(by show 5 ≤ sizeLine; decide), fun pv hpv => ?_⟩
  have j8 := same_new hpv (.tup [V.str "ab", V.int 3, V.ref lb, V.ref lt, V.ref le])
  have hV : ScV K (upd H14 pv (.tup [V.str "ab", V.int 3, V.ref lb, V.ref lt, V.ref le])) ⟨"ab", 3, [(1, ""), (0, "")], SS, EE⟩ (.ref pv) lb lt le :=
    ⟨pv, [V.ref b1, V.ref b2], ZZ, WW, rfl, SqT.of upd_same, SqL.of (j8 _ _ eb), SqL.of (j8 _ _ et), SqL.of (j8 _ _ ee), .cons ⟨b1, rfl, SqT.of (j8 _ _ f1)⟩ (.cons ⟨b2, rfl, SqT.of (j8 _ _ f2)⟩ .nil), paired_mono (fun _ _ => StV.mono (Same.grow j8)) hTc, paired_mono (fun _ _ => MkV.mono (Same.grow j8)) hEc⟩
  have g15 := g14.trans j8
  try dsimp only at hpv ⊢
  generalize upd H14 pv (.tup [V.str "ab", V.int 3, V.ref lb, V.ref lt, V.ref le]) = H15 at hV g15 ⊢
  have hla : ("a" : Str).length = 1 := by decide +kernel
  have hlb1 : ("b" : Str).length = 1 := by decide +kernel
  have hml := mul_len "a" (57 + c / 40 % 3) (by omega)
  rw [hla] at hml
  refine ⟨_, rfl, _, _, rfl, rfl, ⟨by decide, by decide⟩, _, _, rfl, rfl, (by show (0 : Int) < 3; decide), _, _, rfl, rfl, _, _, rfl, rfl, by omega, by omega, by rw [hla]; decide, _, _, rfl, rfl, szl (by omega), ?_⟩
  have hxl : (Txt.mul "a" (57 + c / 40 % 3) ++ "b").length ≤ 62 := by rw [len_app, hlb1]; omega
  generalize Txt.mul "a" (57 + c / 40 % 3) ++ "b" = x at hxl
  have rg : ∃ f : Int, (∀ t ∈ SS, f ≤ t.1 ∧ t.1 < f + 15) ∧ ∀ m ∈ EE, f ≤ m.1 ∧ m.1 < f + 15 := ⟨0, fun t ht => ⟨(hTm2 t ht).1.1, by have := (hTm2 t ht).1.2; omega⟩, fun m hm => by rw [hEm m hm]; exact ⟨by decide, by decide⟩⟩
  have hbr : ∀ m ∈ [((1 : Int), ("" : Str)), (0, "")], 0 ≤ m.1 ∧ m.1 < 3 := fun m hm => by
    simp only [List.mem_cons, List.not_mem_nil, or_false] at hm
    rcases hm with rfl | rfl <;> exact ⟨by decide, by decide⟩
  refine ⟨_, rfl, _, rfl, _, ⟨"ab", 3, [(1, ""), (0, "")], SS, EE⟩, lb, lt, le, x, rfl, hV, by show 2 ≤ 99; decide, by show EE.length ≤ 99; omega, by show SS.length ≤ 99; omega, hxl, rg, fun hn H16 g16 => ?_, fun y hy fv H16 g16 hW => ?_⟩
  · refine ⟨_, rfl, _, rfl, _, ⟨"ab", 3, [(1, ""), (0, "")], SS, EE⟩, lb, lt, le, x, rfl, hV.mono g16, by show (0 : Int) ≤ 3; decide, by show (3 : Int) ≤ 14; decide, by show 2 ≤ 99; decide, by show EE.length ≤ 99; omega, by show SS.length ≤ 99; omega, hxl, hbr, fun t ht => (hTm2 t ht).2, fun _ H17 g17 => ?_, fun y hy => (by rw [hn] at hy; cases hy)⟩
    exact ⟨.non, .non, rfl, .inl ⟨rfl, rfl⟩, fun H18 g18 => q _ (((g15.trans g16).trans g17).trans g18)⟩
  refine ⟨_, rfl, _, rfl, _, ⟨"ab", 3, [(1, ""), (0, "")], SS, EE⟩, lb, lt, le, x, rfl, hV.mono g16, by show (0 : Int) ≤ 3; decide, by show (3 : Int) ≤ 14; decide, by show 2 ≤ 99; decide, by show EE.length ≤ 99; omega, by show SS.length ≤ 99; omega, hxl, hbr, fun t ht => (hTm2 t ht).2, fun z => (by rw [hy] at z; cases z), fun y2 hy2 dv H17 g17 hD => ?_⟩
  rw [hy] at hy2
  injection hy2 with hy2
  subst hy2
  obtain ⟨_, _, _, _, _, _, _, _, _, _, _, hrl, _⟩ := fw_parts hy
  exact ⟨_, _, rfl, .inr ⟨y, hW.v.mono g17, hD, by omega⟩, fun H18 g18 => q _ (((g15.trans g16).trans g17).trans g18)⟩

theorem sc_law : FnScope ["_law_script", "_law_scribe_here", "_law_handed", "_law_kept", "_law_k", "_law_cell", "_law_text_here", "_law_at", "_law_due", "_law_found"] ["_law_script"] (defScope s_law) := ⟨rfl, rfl, rfl, by decide +kernel, rfl, by decide +kernel, by decide +kernel⟩
theorem ok_law (B : Bi mg) {c_NoWay : Addr} (XB : Xb K mg c_NoWay) (C_law_scribe : Cal P w K mg base "_law_scribe" ["_law_script", "_law_at", "_law_plain"] 3 (spScribe K)) (C_law_copied : Cal P w K mg base "_law_copied" ["_law_scribe_here"] 1 (spCopied K)) (C_law_long : Cal P w K mg base "_law_long" ["_law_script"] 5 (spLong K)) (C_law_farther : Cal P w K mg base "_law_farther" ["_law_scribe_here", "_law_far"] 1 (spFar K)) (C_law_text : Cal P w K mg base "_law_text" ["_law_cell", "_law_signs"] 1 (spText)) (C_law_first : Cal P w K mg base "_law_first" ["_law_scribe_here", "_law_text_here"] 2 (spFirst K)) (C_first_way : Cal P w K mg base "first_way" ["scribe", "text"] 4 (spFW K)) (C_law_cell_at : Cal P w K mg base "_law_cell_at" ["_law_script", "_law_k"] 1 (spCell K)) (C_law_same : Cal P w K mg base "_law_same" ["_law_found", "_law_due"] 1 (spSame K)) (C_walked_by : Cal1 P w K mg base "walked_by" ["scribe", "way"] 2 (spWalked K c_NoWay)) (C_law_says : Cal P w K mg base "_law_says" ["_law_scribe_here", "_law_way"] 1 (spSays K)) {f : Addr} {fd : FuncData} (F : Fun K "law" "law" s_law f fd) : FnOk P w K mg base CX0 6 f fd ["_law_script"] (spLaw K) := by
  refine F.ok sc_law (fun vs H Q E h => ?_) (fun cdv A outer s H vs Q E hr h => ?_)
  · obtain ⟨a, ns, rfl, _⟩ := h; rfl
  obtain ⟨a, ns, rfl, hS, h63, q⟩ := h
  refine ⟨_, (pss_cons (ps_set (i := 1) sc_law.nd rfl (Or.inl rfl) (pe_fn C_law_scribe hr (by decide : 3 ≤ 5) (by rfl) (pa_cons (pv 0) (pa_cons pe_int (pa_cons pe_bl pa_nil)))))
      (pss_cons (ps_if (pt_not (pt_val (pe_fn C_law_long hr (by decide : 5 ≤ 5) (by rfl) (pa_cons (pv 0) pa_nil)))) (pss_one (ps_ret pe_bl)) pss_nil)
      (pss_cons (ps_set (i := 2) sc_law.nd rfl (Or.inl rfl) (pe_fn C_law_copied hr (by decide : 1 ≤ 5) (by rfl) (pa_cons (pv 1) pa_nil)))
      (pss_mid (ps_if (pt_cmpR op_eq (pe_op op_mod (pe_fn C_law_cell_at hr (by decide : 1 ≤ 5) (by rfl) (pa_cons (pv 0) (pa_cons pe_int pa_nil))) pe_int) pe_int (nomark _)) (pss_one (ps_set (i := 2) sc_law.nd rfl (Or.inl rfl) (pe_fn C_law_farther hr (by decide : 1 ≤ 5) (by rfl) (pa_cons (pv 1) (pa_cons (pe_op op_add pe_int (pe_op op_mod (pe_op op_fdiv (pe_fn C_law_cell_at hr (by decide : 1 ≤ 5) (by rfl) (pa_cons (pv 0) (pa_cons pe_int pa_nil))) pe_int) pe_int)) pa_nil))))) pss_nil)
      (pss_cons (ps_set (i := 3) sc_law.nd rfl (Or.inl rfl) (pe_fn C_law_copied hr (by decide : 1 ≤ 5) (by rfl) (pa_cons (pv 2) pa_nil)))
      (pss_cons (ps_for PassesOwn.never (by rfl) (pi_range1 (by rfl) B.range (pa_cons pe_int pa_nil)) (pg_name (i := 4) sc_law.nd rfl (Or.inl rfl)) (pss_cons (ps_set (i := 5) sc_law.nd rfl (Or.inl rfl) (pe_op op_fdiv (pe_fn C_law_cell_at hr (by decide : 1 ≤ 5) (by rfl) (pa_cons (pv 0) (pa_cons (pe_op op_add pe_int (pv 4)) pa_nil))) pe_int))
      (pss_cons (ps_set (i := 6) sc_law.nd rfl (Or.inl rfl) (pe_fn C_law_text hr (by decide : 1 ≤ 5) (by rfl) (pa_cons (pv 5) (pa_cons (pe_ix (kIx (K := K) rIxT ix_tup) (pv 1) pe_int (by intro _ _; rfl)) pa_nil))))
      (pss_mid (ps_if (pt_cmpR op_eq (pe_op op_mod (pe_op op_fdiv (pv 5) pe_int) pe_int) pe_int (nomark _)) (pss_cons (ps_set (i := 7) sc_law.nd rfl (Or.inl rfl) (pe_op op_mod (pe_op op_fdiv (pv 5) pe_int) (pe_op op_add (pe_callB call_len_str (by rfl) B.len bt_len (pa_cons (pv 6) pa_nil)) pe_int)))
      (pss_one (ps_set (i := 6) sc_law.nd rfl (Or.inl rfl) (pe_op op_add_str (pe_op op_add_str (pe_slice sl_str (pv 6) po_none (po_some (pv 7))) pe_str) (pe_slice sl_str (pv 6) (po_some (pv 7)) po_none))))) pss_nil)
      (pss_cons (ps_set (i := 8) sc_law.nd rfl (Or.inl rfl) (pe_fn C_law_first hr (by decide : 2 ≤ 5) (by rfl) (pa_cons (pv 1) (pa_cons (pv 6) pa_nil))))
      (pss_cons (ps_set (i := 9) sc_law.nd rfl (Or.inl rfl) (pe_fn C_first_way hr (by decide : 4 ≤ 5) (by rfl) (pa_cons (pv 2) (pa_cons (pv 6) pa_nil))))
      (pss_cons (ps_if (pt_not (pt_val (pe_fn C_law_same hr (by decide : 1 ≤ 5) (by rfl) (pa_cons (pv 9) (pa_cons (pv 8) pa_nil))))) (pss_one (ps_ret pe_bl)) pss_nil)
      (pss_one (ps_if (pt_cmpR op_notN (pv 8) pe_non (nomark _)) (pss_cons (ps_if (pt_cmpR (kOp (K := K) rNeD (op_neD hr.units)) (pe_fn1 C_walked_by hr (by decide : 2 ≤ 5) (by rfl) pass_no (pa_cons (pv 2) (pa_cons (pv 9) pa_nil))) (pe_tup (pa_cons (pv 6) (pa_cons (pe_fn C_law_says hr (by decide : 1 ≤ 5) (by rfl) (pa_cons (pv 1) (pa_cons (pv 8) pa_nil))) pa_nil))) (nomark _)) (pss_one (ps_ret pe_bl)) pss_nil)
      (pss_cons (ps_expr (kPE (K := K) (fun k => tBM k _ _ _ _) (pe_bm PySem.F.plainAttrs_list PySem.F.slot_list_append PySem.F.type_list_append mt_append (pe_ix (kIx (K := K) rIxT ix_tup) (pv 9) pe_int (by intro _ _; rfl)) (pa_cons pe_int pa_nil))))
      (pss_one (ps_if (pt_not (pt_val (pe_fn C_law_same hr (by decide : 1 ≤ 5) (by rfl) (pa_cons (pe_fn C_first_way hr (by decide : 4 ≤ 5) (by rfl) (pa_cons (pv 2) (pa_cons (pv 6) pa_nil))) (pa_cons (pv 8) pa_nil))))) (pss_one (ps_ret pe_bl)) pss_nil)))) pss_nil)))))))))
      (pss_one (ps_ret (pe_cmpR (kOp (K := K) rEqD (op_eqD hr.units)) (pv 2) (pv 3) (nomark _)))))))))), ?_⟩
  refine ⟨_, rfl, a, ns, 0, false, rfl, hS, h63, by decide, by decide, fun v1 H1 s pb ps pe ⟨g1, hV1, ok1, r0, r1, sg1, sg2, sg3, sg4⟩ => ?_⟩
  have hSh : Short s := short93 ok1
  refine ⟨_, rfl, a, ns, rfl, g1.seq hS, fun H2 g2 => ⟨_, rfl, iteF ?_⟩⟩
  have hV12 := hV1.mono g2
  refine ⟨_, rfl, v1, s, pb, ps, pe, rfl, hV12, fun v2 H3 pb2 ps2 pe2 g3 hN2 _ => ?_⟩
  have hV13 := hV12.mono g3
  have hS3 := ((g1.trans g2).trans g3).seq hS
  refine ⟨fun σ H' => Same H3 H' ∧ ∃ vh sh pbh psh peh, ScV K H' sh vh pbh psh peh ∧ Alike s sh ∧ σ = [some (.ref a), some v1, some vh, none, none, none, none, none, none, none], ?_, ?_⟩
  · refine ⟨_, rfl, a, ns, 41, rfl, hS3, by decide, _, _, rfl, rfl, (by show (0 : Int) < 4; decide), rfl, _, rfl, iteDd (fun _ => ?_) (fun _ => ⟨Same.refl _, v2, s, pb2, ps2, pe2, hN2.v, Alike.self ok1 hSh r1, rfl⟩)⟩
    refine ⟨_, rfl, _, rfl, a, ns, 41, rfl, hS3, by decide, _, _, rfl, rfl, ⟨by decide, by decide⟩, _, _, rfl, rfl, (by show (0 : Int) < 192; decide), _, _, rfl, rfl, v1, s, pb, ps, pe, _, rfl, hV13, Nat.le_trans ok1.lb (by decide), Nat.le_trans ok1.ls (by decide), Nat.le_trans ok1.le (by decide), fun v' H' pb' ps' pe' g' hV' => ?_⟩
    exact ⟨g', v', _, pb', ps', pe', hV', Alike.far ok1 hSh r1 _, rfl⟩
  rintro σ H4 ⟨g4, vh, sh, pbh, psh, peh, hVh, al, rfl⟩
  refine ⟨_, rfl, vh, sh, pbh, psh, peh, rfl, hVh, fun vk H5 pbk psk pek g5 hNk _ => ?_⟩
  have hVk := hNk.v
  have hVh5 := hVh.mono g5
  have hV15 := hV13.mono (g4.trans g5)
  have hS5 := (g4.trans g5).seq hS3
  have hbr : ∀ m ∈ s.begins, 0 ≤ m.1 ∧ m.1 < s.rooms := fun m hm => ⟨(ok1.mb m hm).1, (ok1.mb m hm).2.1⟩
  have hgr : ∀ t, t ∈ s.steps → 0 ≤ t.2.2.2 ∧ t.2.2.2 < s.rooms := fun t ht => (ok1.ms t ht).2.2.2.2
  have lb : s.begins.length ≤ 99 := Nat.le_trans ok1.lb (by decide)
  have ls : s.steps.length ≤ 99 := Nat.le_trans ok1.ls (by decide)
  have le : s.ends.length ≤ 99 := Nat.le_trans ok1.le (by decide)
  refine ⟨_, rfl, by decide, by decide, ?_⟩
  refine for_range (fun i σ H' => Same H5 H' ∧ ∃ x4 x5 x6 x7 x8 x9, σ = [some (.ref a), some v1, some vh, some vk, x4, x5, x6, x7, x8, x9]) ⟨Same.refl _, _, _, _, _, _, _, rfl⟩ ?_ ?_
  rotate_left
  · rintro σ H6 ⟨g6, x4, x5, x6, x7, x8, x9, rfl⟩
    refine ⟨_, rfl, _, rfl, dScr sh, dScr sh, (hVh5.mono g6).rep, (hVk.mono g6).rep, Nat.le_trans (deep_dScr _) (by decide), ?_⟩
    rw [eqD_refl]
    exact q _
  rintro i σ H6 hi ⟨g6, x4, x5, x6, x7, x8, x9, rfl⟩
  have hi8 : i < 8 := hi
  have hV16 := hV15.mono g6
  have hVh6 := hVh5.mono g6
  have hS6 := g6.seq hS5
  obtain ⟨av, zb, zs, ze, rfl, t1, _⟩ := id hV16
  refine ⟨_, rfl, _, rfl, _, _, rfl, rfl, a, ns, _, rfl, hS6, by omega, _, _, rfl, rfl, ⟨by decide, by decide⟩, ?_⟩
  dsimp only
  generalize cellAt ns (33 + (0 + (i : Int))) / 2 = cc
  refine ⟨_, rfl, _, rfl, av, _, _, _, rfl, rfl, t1, rfl, cc, s.signs, rfl, sg1, sg2, fun y0 hy0 => ?_⟩
  refine ⟨fun σ H' => H6 = H' ∧ ∃ (x : Str) (x7 : Option V), x.length ≤ 26 ∧ σ = [some (.ref a), some (.ref av), some vh, some vk, some (.int (0 + (i : Int))), some (.int cc), some (.str x), x7, x8, x9], ?_, ?_⟩
  · refine ⟨_, rfl, _, _, rfl, rfl, ⟨by decide, by decide⟩, _, _, rfl, rfl, (by show (0 : Int) < 7; decide), rfl, _, rfl, iteDd (fun _ => ?_) (fun _ => ⟨rfl, y0, _, by omega, rfl⟩)⟩
    refine ⟨_, rfl, _, _, rfl, rfl, ⟨by decide, by decide⟩, _, rfl, y0, rfl, szl (by omega), _, _, rfl, rfl, _, _, rfl, rfl, (by show (0 : Int) < (y0.length : Int) + 1; omega), ?_⟩
    have s1 := fun lo hi => Txt.slice_le y0 lo hi
    have hq1 : (Str.ofString "q").length = 1 := by decide +kernel
    refine ⟨_, rfl, _, rfl, _, rfl, _, rfl, szl (by omega), _, _, rfl, rfl, szl (by have := s1 none (some (cc / 3 % ((y0.length : Int) + 1))); omega), ?_⟩
    refine ⟨_, rfl, _, rfl, _, rfl, _, rfl, szl (by omega), _, _, rfl, rfl, szl (by have := s1 none (some (cc / 3 % ((y0.length : Int) + 1))); have := s1 (some (cc / 3 % ((y0.length : Int) + 1))) none; rw [len_app]; omega), ?_⟩
    exact ⟨rfl, _, _, by have := s1 none (some (cc / 3 % ((y0.length : Int) + 1))); have := s1 (some (cc / 3 % ((y0.length : Int) + 1))) none; rw [len_app, len_app]; omega, rfl⟩
  rintro σ _ ⟨rfl, x, x7, hx, rfl⟩
  refine ⟨_, rfl, _, rfl, _, s, pb, ps, pe, x, rfl, hV16, r0, r1, lb, le, ls, by omega, hbr, hgr, fun hn H7 g7 => ?_, fun y hy wv H7 g7 hW => ?_⟩
  · refine ⟨_, rfl, _, rfl, _, sh, pbh, psh, peh, x, rfl, hVh6.mono g7, al.lb, al.le, al.ls, by omega, al.rg, fun _ H8 g8 => ?_, fun y hy => (by rw [al.fw, hn] at hy; cases hy)⟩
    refine ⟨_, rfl, _, rfl, .non, .non, rfl, .inl ⟨rfl, rfl⟩, fun H9 g9 => ⟨_, rfl, iteF ?_⟩⟩
    exact ⟨_, rfl, rfl, _, rfl, iteNd (fun c => absurd rfl c) (fun _ => ⟨((g6.trans g7).trans g8).trans g9, _, _, _, _, _, _, rfl⟩)⟩
  have hVh7 := hVh6.mono g7
  obtain ⟨b, e, m, n, hm, hn, yb, ye, yr, _, _, hrl, hrin⟩ := fw_parts hy
  have hbl : b < s.begins.length := (List.getElem?_eq_some_iff.mp hm).1
  have hel : e < s.ends.length := (List.getElem?_eq_some_iff.mp hn).1
  have hwd := fw_walked ((al.fw x).trans hy)
  rw [al.wd] at hwd
  have hwy : wordY s y = sayGo s.steps m.2 y.row ++ n.2 := by unfold wordY; rw [yb, ye, Int.toNat_natCast, Int.toNat_natCast, hm, hn]; rfl
  refine ⟨_, rfl, _, rfl, _, sh, pbh, psh, peh, x, rfl, hVh7, al.lb, al.le, al.ls, by omega, al.rg, fun z => (by rw [al.fw, hy] at z; cases z), fun y2 hy2 fv H8 g8 hWn => ?_⟩
  rw [al.fw, hy] at hy2
  injection hy2 with hy2
  subst hy2
  have hW8 := hW.mono g8
  have hWf := hWn.v
  refine ⟨_, rfl, _, rfl, _, _, rfl, .inr ⟨y, hWf, hW8, by omega⟩, fun H9 g9 => ⟨_, rfl, iteF ?_⟩⟩
  obtain ⟨wa, wp, rfl, w1, w2⟩ := id hW
  refine ⟨_, rfl, rfl, _, rfl, iteNd (fun _ => ?_) (fun c => nomatch c)⟩
  have g79 := g8.trans g9
  refine ⟨_, rfl, _, rfl, _, sh, pbh, psh, peh, _, y, rfl, hVh7.mono g79, hWf.mono g9, al.st, by omega, fun t u hz pp H10 g10 hpp => ?_, fun hz => (by rw [hwd] at hz; cases hz)⟩
  rw [hwd] at hz
  injection hz with hz
  injection hz with hz1 hz2
  subst hz1 hz2
  have g710 := g79.trans g10
  refine ⟨_, rfl, _, rfl, _, rfl, _, s, pb, ps, pe, _, y, m, n, rfl, (hV16.mono g7).mono g710, hW.mono g710, ⟨by omega, by omega⟩, by rw [yb, Int.toNat_natCast]; exact hm, hrin, ⟨by omega, by omega⟩, by rw [ye, Int.toNat_natCast]; exact hn, hSh, by omega, (by show 2 ≤ sizeLine; decide), fun p2 hp2 => ?_⟩
  rw [← hwy]
  have gp2 := same_new hp2 (.tup [V.str x, V.str (wordY s y)])
  refine ⟨.tup [.str x, .str (wordY s y)], .tup [.str x, .str (wordY s y)], rep_tup (SqT.of (gp2 _ _ hpp)) (.cons (rep_str _) (.cons (rep_str _) .nil)), rep_tup (SqT.of upd_same) (.cons (rep_str _) (.cons (rep_str _) .nil)), by simp [deep, deeps], _, rfl, ?_⟩
  rw [eqD_refl]
  refine iteF ?_
  have g711 := g710.trans gp2
  have g811 := (g9.trans g10).trans gp2
  generalize upd H10 p2 (.tup [V.str x, V.str (wordY s y)]) = H11 at g711 g811 ⊢
  obtain ⟨fa, fp, rfl, hfp, f1, f2⟩ := hWn
  have f2b := g811 _ _ f2
  refine ⟨_, rfl, fa, _, _, _, rfl, rfl, Same.seqT g811 f1, rfl, .inl ⟨rfl, _, SqL.of f2b⟩, fp, _, _, rfl, rfl, f2b, szl' (by rw [List.length_map]; omega), ?_⟩
  have g712 := same_updN g711 hfp (o := .lst (y.row.map V.int ++ [V.int 0]))
  generalize upd H11 fp (.lst (y.row.map V.int ++ [V.int 0])) = H12 at g712 ⊢
  refine ⟨_, rfl, _, rfl, _, sh, pbh, psh, peh, x, rfl, hVh7.mono g712, al.lb, al.le, al.ls, by omega, al.rg, fun z => (by rw [al.fw, hy] at z; cases z), fun y2 hy2 fv2 H13 g13 hWn2 => ?_⟩
  rw [al.fw, hy] at hy2
  injection hy2 with hy2
  subst hy2
  refine ⟨_, rfl, _, _, rfl, .inr ⟨y, hWn2.v, (hW.mono g712).mono g13, by omega⟩, fun H14 g14 => ⟨_, rfl, iteF ?_⟩⟩
  exact ⟨(((g6.trans g7).trans g712).trans g13).trans g14, _, _, _, _, _, _, rfl⟩

end
theorem len_1 {α : Type} : ∀ {us : List α} (_ : us.length = 1), ∃ u0, us = [u0]
  | [u0], _ => ⟨u0, rfl⟩
theorem len_2 {α : Type} : ∀ {us : List α} (_ : us.length = 2), ∃ u0 u1, us = [u0, u1]
  | [u0, u1], _ => ⟨u0, u1, rfl⟩
theorem len_3 {α : Type} : ∀ {us : List α} (_ : us.length = 3), ∃ u0 u1 u2, us = [u0, u1, u2]
  | [u0, u1, u2], _ => ⟨u0, u1, u2, rfl⟩
theorem all_mk {l : PySem.W.OpenLaw} {w : World} {K : PySem.W.Frag} {h : Heap} {mg : Str → Option Value} {fa f0 f1 f2 f3 f4 f5 f6 f7 f8 f9 f10 f11 f12 f13 f14 f15 f16 f17 f18 f19 f20 f21 f22 f23 c_NoWay : Addr} (X : K.In h) (G : h.Ns mainGlobals mg) (hfa : mg "law" = some (.ref fa))
    {od0 an0 od1 an1 od2 an2 od3 an3 od4 an4 od5 an5 od6 an6 od7 an7 od8 an8 od9 an9 od10 an10 od11 an11 od12 an12 od13 an13 od14 an14 od15 an15 od16 an16 od17 an17 od18 an18 od19 an19 od20 an20 od21 an21 od22 an22 od23 an23 : Option Addr} {sl0 sl1 sl2 sl3 sl4 sl5 sl6 sl7 sl8 sl9 sl10 sl11 sl12 sl13 sl14 sl15 sl16 sl17 sl18 sl19 sl20 sl21 sl22 sl23 : Array (Option Value)} {oc0 kV0 dc0 pm0 cd0 ct0 oc1 kV1 dc1 pm1 cd1 ct1 oc2 kV2 dc2 pm2 cd2 ct2 oc3 kV3 dc3 pm3 cd3 ct3 oc4 kV4 dc4 pm4 cd4 ct4 oc5 kV5 dc5 pm5 cd5 ct5 oc6 kV6 dc6 pm6 cd6 ct6 oc7 kV7 dc7 pm7 cd7 ct7 oc8 kV8 dc8 pm8 cd8 ct8 oc9 kV9 dc9 pm9 cd9 ct9 oc10 kV10 dc10 pm10 cd10 ct10 oc11 kV11 dc11 pm11 cd11 ct11 oc12 kV12 dc12 pm12 cd12 ct12 oc13 kV13 dc13 pm13 cd13 ct13 oc14 kV14 dc14 pm14 cd14 ct14 oc15 kV15 dc15 pm15 cd15 ct15 oc16 kV16 dc16 pm16 cd16 ct16 oc17 kV17 dc17 pm17 cd17 ct17 oc18 kV18 dc18 pm18 cd18 ct18 oc19 kV19 dc19 pm19 cd19 ct19 oc20 kV20 dc20 pm20 cd20 ct20 oc21 kV21 dc21 pm21 cd21 ct21 oc22 kV22 dc22 pm22 cd22 ct22 oc23 kV23 dc23 pm23 cd23 ct23 : Value}
    (a0 : PySem.W.nsIn K mainGlobals "part_at" = some (some (.ref f0))) (l0 : K.lookup f0 = some ⟨oc0, od0, .func (PySem.W.fnOf "part_at" "part_at" (defArgs s_part_at) (defBody s_part_at) (defScope s_part_at) .none kV0 dc0 pm0 an0 cd0 ct0), sl0⟩) (c0 : PySem.W.codeIn K cd0 "part_at" = true) (k0 : PySem.W.keepIn K (.ref f0) = true)
    (a1 : PySem.W.nsIn K mainGlobals "walked_by" = some (some (.ref f1))) (l1 : K.lookup f1 = some ⟨oc1, od1, .func (PySem.W.fnOf "walked_by" "walked_by" (defArgs s_walked_by) (defBody s_walked_by) (defScope s_walked_by) .none kV1 dc1 pm1 an1 cd1 ct1), sl1⟩) (c1 : PySem.W.codeIn K cd1 "walked_by" = true) (k1 : PySem.W.keepIn K (.ref f1) = true)
    (a2 : PySem.W.nsIn K mainGlobals "each_once" = some (some (.ref f2))) (l2 : K.lookup f2 = some ⟨oc2, od2, .func (PySem.W.fnOf "each_once" "each_once" (defArgs s_each_once) (defBody s_each_once) (defScope s_each_once) .none kV2 dc2 pm2 an2 cd2 ct2), sl2⟩) (c2 : PySem.W.codeIn K cd2 "each_once" = true) (k2 : PySem.W.keepIn K (.ref f2) = true)
    (a3 : PySem.W.nsIn K mainGlobals "starts_by_goal" = some (some (.ref f3))) (l3 : K.lookup f3 = some ⟨oc3, od3, .func (PySem.W.fnOf "starts_by_goal" "starts_by_goal" (defArgs s_starts_by_goal) (defBody s_starts_by_goal) (defScope s_starts_by_goal) .none kV3 dc3 pm3 an3 cd3 ct3), sl3⟩) (c3 : PySem.W.codeIn K cd3 "starts_by_goal" = true) (k3 : PySem.W.keepIn K (.ref f3) = true)
    (a4 : PySem.W.nsIn K mainGlobals "rooms_ahead" = some (some (.ref f4))) (l4 : K.lookup f4 = some ⟨oc4, od4, .func (PySem.W.fnOf "rooms_ahead" "rooms_ahead" (defArgs s_rooms_ahead) (defBody s_rooms_ahead) (defScope s_rooms_ahead) .none kV4 dc4 pm4 an4 cd4 ct4), sl4⟩) (c4 : PySem.W.codeIn K cd4 "rooms_ahead" = true) (k4 : PySem.W.keepIn K (.ref f4) = true)
    (a5 : PySem.W.nsIn K mainGlobals "rooms_with_ends" = some (some (.ref f5))) (l5 : K.lookup f5 = some ⟨oc5, od5, .func (PySem.W.fnOf "rooms_with_ends" "rooms_with_ends" (defArgs s_rooms_with_ends) (defBody s_rooms_with_ends) (defScope s_rooms_with_ends) .none kV5 dc5 pm5 an5 cd5 ct5), sl5⟩) (c5 : PySem.W.codeIn K cd5 "rooms_with_ends" = true) (k5 : PySem.W.keepIn K (.ref f5) = true)
    (a6 : PySem.W.nsIn K mainGlobals "rooms_that_lead_on" = some (some (.ref f6))) (l6 : K.lookup f6 = some ⟨oc6, od6, .func (PySem.W.fnOf "rooms_that_lead_on" "rooms_that_lead_on" (defArgs s_rooms_that_lead_on) (defBody s_rooms_that_lead_on) (defScope s_rooms_that_lead_on) .none kV6 dc6 pm6 an6 cd6 ct6), sl6⟩) (c6 : PySem.W.codeIn K cd6 "rooms_that_lead_on" = true) (k6 : PySem.W.keepIn K (.ref f6) = true)
    (a7 : PySem.W.nsIn K mainGlobals "first_mark" = some (some (.ref f7))) (l7 : K.lookup f7 = some ⟨oc7, od7, .func (PySem.W.fnOf "first_mark" "first_mark" (defArgs s_first_mark) (defBody s_first_mark) (defScope s_first_mark) .none kV7 dc7 pm7 an7 cd7 ct7), sl7⟩) (c7 : PySem.W.codeIn K cd7 "first_mark" = true) (k7 : PySem.W.keepIn K (.ref f7) = true)
    (a8 : PySem.W.nsIn K mainGlobals "places_by_start" = some (some (.ref f8))) (l8 : K.lookup f8 = some ⟨oc8, od8, .func (PySem.W.fnOf "places_by_start" "places_by_start" (defArgs s_places_by_start) (defBody s_places_by_start) (defScope s_places_by_start) .none kV8 dc8 pm8 an8 cd8 ct8), sl8⟩) (c8 : PySem.W.codeIn K cd8 "places_by_start" = true) (k8 : PySem.W.keepIn K (.ref f8) = true)
    (a9 : PySem.W.nsIn K mainGlobals "first_step_into" = some (some (.ref f9))) (l9 : K.lookup f9 = some ⟨oc9, od9, .func (PySem.W.fnOf "first_step_into" "first_step_into" (defArgs s_first_step_into) (defBody s_first_step_into) (defScope s_first_step_into) .none kV9 dc9 pm9 an9 cd9 ct9), sl9⟩) (c9 : PySem.W.codeIn K cd9 "first_step_into" = true) (k9 : PySem.W.keepIn K (.ref f9) = true)
    (a10 : PySem.W.nsIn K mainGlobals "first_way" = some (some (.ref f10))) (l10 : K.lookup f10 = some ⟨oc10, od10, .func (PySem.W.fnOf "first_way" "first_way" (defArgs s_first_way) (defBody s_first_way) (defScope s_first_way) .none kV10 dc10 pm10 an10 cd10 ct10), sl10⟩) (c10 : PySem.W.codeIn K cd10 "first_way" = true) (k10 : PySem.W.keepIn K (.ref f10) = true)
    (a11 : PySem.W.nsIn K mainGlobals "_law_cell_at" = some (some (.ref f11))) (l11 : K.lookup f11 = some ⟨oc11, od11, .func (PySem.W.fnOf "_law_cell_at" "_law_cell_at" (defArgs s_law_cell_at) (defBody s_law_cell_at) (defScope s_law_cell_at) .none kV11 dc11 pm11 an11 cd11 ct11), sl11⟩) (c11 : PySem.W.codeIn K cd11 "_law_cell_at" = true) (k11 : PySem.W.keepIn K (.ref f11) = true)
    (a12 : PySem.W.nsIn K mainGlobals "_law_digits_at" = some (some (.ref f12))) (l12 : K.lookup f12 = some ⟨oc12, od12, .func (PySem.W.fnOf "_law_digits_at" "_law_digits_at" (defArgs s_law_digits_at) (defBody s_law_digits_at) (defScope s_law_digits_at) .none kV12 dc12 pm12 an12 cd12 ct12), sl12⟩) (c12 : PySem.W.codeIn K cd12 "_law_digits_at" = true) (k12 : PySem.W.keepIn K (.ref f12) = true)
    (a13 : PySem.W.nsIn K mainGlobals "_law_word" = some (some (.ref f13))) (l13 : K.lookup f13 = some ⟨oc13, od13, .func (PySem.W.fnOf "_law_word" "_law_word" (defArgs s_law_word) (defBody s_law_word) (defScope s_law_word) .none kV13 dc13 pm13 an13 cd13 ct13), sl13⟩) (c13 : PySem.W.codeIn K cd13 "_law_word" = true) (k13 : PySem.W.keepIn K (.ref f13) = true)
    (a14 : PySem.W.nsIn K mainGlobals "_law_scribe" = some (some (.ref f14))) (l14 : K.lookup f14 = some ⟨oc14, od14, .func (PySem.W.fnOf "_law_scribe" "_law_scribe" (defArgs s_law_scribe) (defBody s_law_scribe) (defScope s_law_scribe) .none kV14 dc14 pm14 an14 cd14 ct14), sl14⟩) (c14 : PySem.W.codeIn K cd14 "_law_scribe" = true) (k14 : PySem.W.keepIn K (.ref f14) = true)
    (a15 : PySem.W.nsIn K mainGlobals "_law_text" = some (some (.ref f15))) (l15 : K.lookup f15 = some ⟨oc15, od15, .func (PySem.W.fnOf "_law_text" "_law_text" (defArgs s_law_text) (defBody s_law_text) (defScope s_law_text) .none kV15 dc15 pm15 an15 cd15 ct15), sl15⟩) (c15 : PySem.W.codeIn K cd15 "_law_text" = true) (k15 : PySem.W.keepIn K (.ref f15) = true)
    (a16 : PySem.W.nsIn K mainGlobals "_law_copied" = some (some (.ref f16))) (l16 : K.lookup f16 = some ⟨oc16, od16, .func (PySem.W.fnOf "_law_copied" "_law_copied" (defArgs s_law_copied) (defBody s_law_copied) (defScope s_law_copied) .none kV16 dc16 pm16 an16 cd16 ct16), sl16⟩) (c16 : PySem.W.codeIn K cd16 "_law_copied" = true) (k16 : PySem.W.keepIn K (.ref f16) = true)
    (a17 : PySem.W.nsIn K mainGlobals "_law_dead" = some (some (.ref f17))) (l17 : K.lookup f17 = some ⟨oc17, od17, .func (PySem.W.fnOf "_law_dead" "_law_dead" (defArgs s_law_dead) (defBody s_law_dead) (defScope s_law_dead) .none kV17 dc17 pm17 an17 cd17 ct17), sl17⟩) (c17 : PySem.W.codeIn K cd17 "_law_dead" = true) (k17 : PySem.W.keepIn K (.ref f17) = true)
    (a18 : PySem.W.nsIn K mainGlobals "_law_first" = some (some (.ref f18))) (l18 : K.lookup f18 = some ⟨oc18, od18, .func (PySem.W.fnOf "_law_first" "_law_first" (defArgs s_law_first) (defBody s_law_first) (defScope s_law_first) .none kV18 dc18 pm18 an18 cd18 ct18), sl18⟩) (c18 : PySem.W.codeIn K cd18 "_law_first" = true) (k18 : PySem.W.keepIn K (.ref f18) = true)
    (a19 : PySem.W.nsIn K mainGlobals "_law_says" = some (some (.ref f19))) (l19 : K.lookup f19 = some ⟨oc19, od19, .func (PySem.W.fnOf "_law_says" "_law_says" (defArgs s_law_says) (defBody s_law_says) (defScope s_law_says) .none kV19 dc19 pm19 an19 cd19 ct19), sl19⟩) (c19 : PySem.W.codeIn K cd19 "_law_says" = true) (k19 : PySem.W.keepIn K (.ref f19) = true)
    (a20 : PySem.W.nsIn K mainGlobals "_law_same" = some (some (.ref f20))) (l20 : K.lookup f20 = some ⟨oc20, od20, .func (PySem.W.fnOf "_law_same" "_law_same" (defArgs s_law_same) (defBody s_law_same) (defScope s_law_same) .none kV20 dc20 pm20 an20 cd20 ct20), sl20⟩) (c20 : PySem.W.codeIn K cd20 "_law_same" = true) (k20 : PySem.W.keepIn K (.ref f20) = true)
    (a21 : PySem.W.nsIn K mainGlobals "_law_farther" = some (some (.ref f21))) (l21 : K.lookup f21 = some ⟨oc21, od21, .func (PySem.W.fnOf "_law_farther" "_law_farther" (defArgs s_law_farther) (defBody s_law_farther) (defScope s_law_farther) .none kV21 dc21 pm21 an21 cd21 ct21), sl21⟩) (c21 : PySem.W.codeIn K cd21 "_law_farther" = true) (k21 : PySem.W.keepIn K (.ref f21) = true)
    (a22 : PySem.W.nsIn K mainGlobals "_law_long" = some (some (.ref f22))) (l22 : K.lookup f22 = some ⟨oc22, od22, .func (PySem.W.fnOf "_law_long" "_law_long" (defArgs s_law_long) (defBody s_law_long) (defScope s_law_long) .none kV22 dc22 pm22 an22 cd22 ct22), sl22⟩) (c22 : PySem.W.codeIn K cd22 "_law_long" = true) (k22 : PySem.W.keepIn K (.ref f22) = true)
    (a23 : PySem.W.nsIn K mainGlobals "law" = some (some (.ref f23))) (l23 : K.lookup f23 = some ⟨oc23, od23, .func (PySem.W.fnOf "law" "law" (defArgs s_law) (defBody s_law) (defScope s_law) .none kV23 dc23 pm23 an23 cd23 ct23), sl23⟩) (c23 : PySem.W.codeIn K cd23 "law" = true) (k23 : PySem.W.keepIn K (.ref f23) = true)
    (z0 : PySem.W.nsIn K mainGlobals "bool" = some none)
    (z1 : PySem.W.nsIn K mainGlobals "enumerate" = some none)
    (z2 : PySem.W.nsIn K mainGlobals "int" = some none)
    (z3 : PySem.W.nsIn K mainGlobals "isinstance" = some none)
    (z4 : PySem.W.nsIn K mainGlobals "len" = some none)
    (z5 : PySem.W.nsIn K mainGlobals "list" = some none)
    (z6 : PySem.W.nsIn K mainGlobals "max" = some none)
    (z7 : PySem.W.nsIn K mainGlobals "min" = some none)
    (z8 : PySem.W.nsIn K mainGlobals "range" = some none)
    (z9 : PySem.W.nsIn K mainGlobals "reversed" = some none)
    (z10 : PySem.W.nsIn K mainGlobals "set" = some none)
    (z11 : PySem.W.nsIn K mainGlobals "sorted" = some none)
    (z12 : PySem.W.nsIn K mainGlobals "tuple" = some none)
    (z13 : PySem.W.nsIn K mainGlobals "zip" = some none)
    {gt0 : Tok} (g0 : PySem.W.nsIn K mainGlobals "BEGINS" = some (some (.int 2 gt0)))
    {gt1 : Tok} (g1 : PySem.W.nsIn K mainGlobals "ENDS" = some (some (.int 4 gt1)))
    {gt2 : Tok} (g2 : PySem.W.nsIn K mainGlobals "INTO" = some (some (.int 3 gt2)))
    {gt3 : Tok} (g3 : PySem.W.nsIn K mainGlobals "STEPS" = some (some (.int 3 gt3)))
    (x0 : PySem.W.nsIn K mainGlobals "NoWay" = some (some (.ref c_NoWay)))
    (x1 : PySem.W.excIn K c_NoWay bmV "ValueError.__new__" = true)
    (x2 : PySem.W.findIn K (.ref c_NoWay) "__getattribute__" = some (some (.builtin "BaseException.__getattribute__")))
    (x3 : PySem.W.findIn K (.ref c_NoWay) "__getattr__" = some none)
    (x4 : PySem.W.mroIn K c_NoWay (.type "BaseException") = some true)
    (x5 : (PySem.W.clsIn K c_NoWay).isSome = true)
    (x6 : PySem.W.findIn K (.ref c_NoWay) "__class__" = some (some (.builtin "object.__class__")))
    (x7 : PySem.W.specialIn K (.builtin "object.__class__") "__get__" = some (some (.builtin "getset_descriptor.__get__")))
    (x8 : PySem.W.takesIn K (.builtin "object.__class__") = some true)
    (x9 : PySem.W.mroIn K c_NoWay (.type "object") = some true) :
    ∃ fd : FuncData, (∀ (s : Shared) (v : Value), BindsTo s fd ⟨[v], []⟩ [("_law_script", v)]) ∧ ∀ base : Heap, K.In base → base.Ns mainGlobals mg → FnOk l.prog w K mg base CX0 6 fa fd ["_law_script"] (spLaw K) := by
  have e := hfa.symm.trans (PySem.W.mg_of X G a23)
  cases e
  have B : Bi mg := ⟨PySem.W.mg_none_of X G z0, PySem.W.mg_none_of X G z1, PySem.W.mg_none_of X G z2, PySem.W.mg_none_of X G z3, PySem.W.mg_none_of X G z4, PySem.W.mg_none_of X G z5, PySem.W.mg_none_of X G z6, PySem.W.mg_none_of X G z7, PySem.W.mg_none_of X G z8, PySem.W.mg_none_of X G z9, PySem.W.mg_none_of X G z10, PySem.W.mg_none_of X G z11, PySem.W.mg_none_of X G z12, PySem.W.mg_none_of X G z13, ⟨_, PySem.W.mg_of X G g0⟩, ⟨_, PySem.W.mg_of X G g1⟩, ⟨_, PySem.W.mg_of X G g2⟩, ⟨_, PySem.W.mg_of X G g3⟩⟩
  have nm_NoWay := PySem.W.mg_of X G x0
  have own_NoWay : OwnX K mg "NoWay" c_NoWay := ⟨nm_NoWay, x1⟩
  have xc_NoWay : XCls K c_NoWay := ⟨x2, x3, x4, x5, x6, x7, x8, x9⟩
  have XB : Xb K mg c_NoWay := ⟨nm_NoWay, own_NoWay, xc_NoWay⟩
  have F0 := fun_mk (st := s_part_at) l0 c0 k0
  have F1 := fun_mk (st := s_walked_by) l1 c1 k1
  have F2 := fun_mk (st := s_each_once) l2 c2 k2
  have F3 := fun_mk (st := s_starts_by_goal) l3 c3 k3
  have F4 := fun_mk (st := s_rooms_ahead) l4 c4 k4
  have F5 := fun_mk (st := s_rooms_with_ends) l5 c5 k5
  have F6 := fun_mk (st := s_rooms_that_lead_on) l6 c6 k6
  have F7 := fun_mk (st := s_first_mark) l7 c7 k7
  have F8 := fun_mk (st := s_places_by_start) l8 c8 k8
  have F9 := fun_mk (st := s_first_step_into) l9 c9 k9
  have F10 := fun_mk (st := s_first_way) l10 c10 k10
  have F11 := fun_mk (st := s_law_cell_at) l11 c11 k11
  have F12 := fun_mk (st := s_law_digits_at) l12 c12 k12
  have F13 := fun_mk (st := s_law_word) l13 c13 k13
  have F14 := fun_mk (st := s_law_scribe) l14 c14 k14
  have F15 := fun_mk (st := s_law_text) l15 c15 k15
  have F16 := fun_mk (st := s_law_copied) l16 c16 k16
  have F17 := fun_mk (st := s_law_dead) l17 c17 k17
  have F18 := fun_mk (st := s_law_first) l18 c18 k18
  have F19 := fun_mk (st := s_law_says) l19 c19 k19
  have F20 := fun_mk (st := s_law_same) l20 c20 k20
  have F21 := fun_mk (st := s_law_farther) l21 c21 k21
  have F22 := fun_mk (st := s_law_long) l22 c22 k22
  have F23 := fun_mk (st := s_law) l23 c23 k23
  refine ⟨PySem.W.fnOf "law" "law" (defArgs s_law) (defBody s_law) (defScope s_law) .none kV23 dc23 pm23 an23 cd23 ct23, fun s v => .of_eq rfl, fun base _ _ => ?_⟩
  have C_part_at : Cal1 l.prog w K mg base "part_at" ["parts", "place"] 1 (spPart K c_NoWay) := ⟨_, _, ok_part_at (P := l.prog) (w := w) (base := base) B XB  F0, F0.binds (ps := ["parts", "place"]) (fun _ _ _ _ _ _ us hl => by obtain ⟨u0, u1, rfl⟩ := len_2 hl; rfl), F0.kp, PySem.W.mg_of X G a0⟩
  have C_walked_by : Cal1 l.prog w K mg base "walked_by" ["scribe", "way"] 2 (spWalked K c_NoWay) := ⟨_, _, ok_walked_by (P := l.prog) (w := w) (base := base) B XB C_part_at F1, F1.binds (ps := ["scribe", "way"]) (fun _ _ _ _ _ _ us hl => by obtain ⟨u0, u1, rfl⟩ := len_2 hl; rfl), F1.kp, PySem.W.mg_of X G a1⟩
  have C_each_once : Cal l.prog w K mg base "each_once" ["parts"] 1 (spOnce K) := ⟨_, _, ok_each_once (P := l.prog) (w := w) (base := base) B XB  F2, F2.binds (ps := ["parts"]) (fun _ _ _ _ _ _ us hl => by obtain ⟨u0, rfl⟩ := len_1 hl; rfl), F2.kp, PySem.W.mg_of X G a2⟩
  have C_starts_by_goal : Cal l.prog w K mg base "starts_by_goal" ["scribe"] 2 (spStarts K) := ⟨_, _, ok_starts_by_goal (P := l.prog) (w := w) (base := base) B XB C_each_once F3, F3.binds (ps := ["scribe"]) (fun _ _ _ _ _ _ us hl => by obtain ⟨u0, rfl⟩ := len_1 hl; rfl), F3.kp, PySem.W.mg_of X G a3⟩
  have C_rooms_ahead : Cal l.prog w K mg base "rooms_ahead" ["rooms", "sign", "starts"] 1 (spAhead K) := ⟨_, _, ok_rooms_ahead (P := l.prog) (w := w) (base := base) B XB  F4, F4.binds (ps := ["rooms", "sign", "starts"]) (fun _ _ _ _ _ _ us hl => by obtain ⟨u0, u1, u2, rfl⟩ := len_3 hl; rfl), F4.kp, PySem.W.mg_of X G a4⟩
  have C_rooms_with_ends : Cal l.prog w K mg base "rooms_with_ends" ["scribe"] 1 (spEndR K) := ⟨_, _, ok_rooms_with_ends (P := l.prog) (w := w) (base := base) B XB  F5, F5.binds (ps := ["scribe"]) (fun _ _ _ _ _ _ us hl => by obtain ⟨u0, rfl⟩ := len_1 hl; rfl), F5.kp, PySem.W.mg_of X G a5⟩
  have C_rooms_that_lead_on : Cal l.prog w K mg base "rooms_that_lead_on" ["scribe", "text"] 3 (spLead K) := ⟨_, _, ok_rooms_that_lead_on (P := l.prog) (w := w) (base := base) B XB C_starts_by_goal C_rooms_with_ends C_rooms_ahead F6, F6.binds (ps := ["scribe", "text"]) (fun _ _ _ _ _ _ us hl => by obtain ⟨u0, u1, rfl⟩ := len_2 hl; rfl), F6.kp, PySem.W.mg_of X G a6⟩
  have C_first_mark : Cal l.prog w K mg base "first_mark" ["marks", "rooms"] 1 (spFirstM K) := ⟨_, _, ok_first_mark (P := l.prog) (w := w) (base := base) B XB  F7, F7.binds (ps := ["marks", "rooms"]) (fun _ _ _ _ _ _ us hl => by obtain ⟨u0, u1, rfl⟩ := len_2 hl; rfl), F7.kp, PySem.W.mg_of X G a7⟩
  have C_places_by_start : Cal l.prog w K mg base "places_by_start" ["steps"] 1 (spPlacesBy K) := ⟨_, _, ok_places_by_start (P := l.prog) (w := w) (base := base) B XB  F8, F8.binds (ps := ["steps"]) (fun _ _ _ _ _ _ us hl => by obtain ⟨u0, rfl⟩ := len_1 hl; rfl), F8.kp, PySem.W.mg_of X G a8⟩
  have C_first_step_into : Cal l.prog w K mg base "first_step_into" ["rooms", "places", "steps"] 1 (spInto K) := ⟨_, _, ok_first_step_into (P := l.prog) (w := w) (base := base) B XB  F9, F9.binds (ps := ["rooms", "places", "steps"]) (fun _ _ _ _ _ _ us hl => by obtain ⟨u0, u1, u2, rfl⟩ := len_3 hl; rfl), F9.kp, PySem.W.mg_of X G a9⟩
  have C_first_way : Cal l.prog w K mg base "first_way" ["scribe", "text"] 4 (spFW K) := ⟨_, _, ok_first_way (P := l.prog) (w := w) (base := base) B XB C_rooms_that_lead_on C_first_mark C_places_by_start C_first_step_into F10, F10.binds (ps := ["scribe", "text"]) (fun _ _ _ _ _ _ us hl => by obtain ⟨u0, u1, rfl⟩ := len_2 hl; rfl), F10.kp, PySem.W.mg_of X G a10⟩
  have C_law_cell_at : Cal l.prog w K mg base "_law_cell_at" ["_law_script", "_law_k"] 1 (spCell K) := ⟨_, _, ok_law_cell_at (P := l.prog) (w := w) (base := base) B XB  F11, F11.binds (ps := ["_law_script", "_law_k"]) (fun _ _ _ _ _ _ us hl => by obtain ⟨u0, u1, rfl⟩ := len_2 hl; rfl), F11.kp, PySem.W.mg_of X G a11⟩
  have C_law_digits_at : Cal l.prog w K mg base "_law_digits_at" ["_law_script", "_law_k"] 2 (spDigits K) := ⟨_, _, ok_law_digits_at (P := l.prog) (w := w) (base := base) B XB C_law_cell_at F12, F12.binds (ps := ["_law_script", "_law_k"]) (fun _ _ _ _ _ _ us hl => by obtain ⟨u0, u1, rfl⟩ := len_2 hl; rfl), F12.kp, PySem.W.mg_of X G a12⟩
  have C_law_word : Cal l.prog w K mg base "_law_word" ["_law_cell"] 1 (spWord) := ⟨_, _, ok_law_word (P := l.prog) (w := w) (base := base) B XB  F13, F13.binds (ps := ["_law_cell"]) (fun _ _ _ _ _ _ us hl => by obtain ⟨u0, rfl⟩ := len_1 hl; rfl), F13.kp, PySem.W.mg_of X G a13⟩
  have C_law_scribe : Cal l.prog w K mg base "_law_scribe" ["_law_script", "_law_at", "_law_plain"] 3 (spScribe K) := ⟨_, _, ok_law_scribe (P := l.prog) (w := w) (base := base) B XB C_law_cell_at C_law_digits_at C_law_word F14, F14.binds (ps := ["_law_script", "_law_at", "_law_plain"]) (fun _ _ _ _ _ _ us hl => by obtain ⟨u0, u1, u2, rfl⟩ := len_3 hl; rfl), F14.kp, PySem.W.mg_of X G a14⟩
  have C_law_text : Cal l.prog w K mg base "_law_text" ["_law_cell", "_law_signs"] 1 (spText) := ⟨_, _, ok_law_text (P := l.prog) (w := w) (base := base) B XB  F15, F15.binds (ps := ["_law_cell", "_law_signs"]) (fun _ _ _ _ _ _ us hl => by obtain ⟨u0, u1, rfl⟩ := len_2 hl; rfl), F15.kp, PySem.W.mg_of X G a15⟩
  have C_law_copied : Cal l.prog w K mg base "_law_copied" ["_law_scribe_here"] 1 (spCopied K) := ⟨_, _, ok_law_copied (P := l.prog) (w := w) (base := base) B XB  F16, F16.binds (ps := ["_law_scribe_here"]) (fun _ _ _ _ _ _ us hl => by obtain ⟨u0, rfl⟩ := len_1 hl; rfl), F16.kp, PySem.W.mg_of X G a16⟩
  have C_law_dead : Cal l.prog w K mg base "_law_dead" ["_law_scribe_here", "_law_text_here"] 1 (spDead K) := ⟨_, _, ok_law_dead (P := l.prog) (w := w) (base := base) B XB  F17, F17.binds (ps := ["_law_scribe_here", "_law_text_here"]) (fun _ _ _ _ _ _ us hl => by obtain ⟨u0, u1, rfl⟩ := len_2 hl; rfl), F17.kp, PySem.W.mg_of X G a17⟩
  have C_law_first : Cal l.prog w K mg base "_law_first" ["_law_scribe_here", "_law_text_here"] 2 (spFirst K) := ⟨_, _, ok_law_first (P := l.prog) (w := w) (base := base) B XB C_law_dead F18, F18.binds (ps := ["_law_scribe_here", "_law_text_here"]) (fun _ _ _ _ _ _ us hl => by obtain ⟨u0, u1, rfl⟩ := len_2 hl; rfl), F18.kp, PySem.W.mg_of X G a18⟩
  have C_law_says : Cal l.prog w K mg base "_law_says" ["_law_scribe_here", "_law_way"] 1 (spSays K) := ⟨_, _, ok_law_says (P := l.prog) (w := w) (base := base) B XB  F19, F19.binds (ps := ["_law_scribe_here", "_law_way"]) (fun _ _ _ _ _ _ us hl => by obtain ⟨u0, u1, rfl⟩ := len_2 hl; rfl), F19.kp, PySem.W.mg_of X G a19⟩
  have C_law_same : Cal l.prog w K mg base "_law_same" ["_law_found", "_law_due"] 1 (spSame K) := ⟨_, _, ok_law_same (P := l.prog) (w := w) (base := base) B XB  F20, F20.binds (ps := ["_law_found", "_law_due"]) (fun _ _ _ _ _ _ us hl => by obtain ⟨u0, u1, rfl⟩ := len_2 hl; rfl), F20.kp, PySem.W.mg_of X G a20⟩
  have C_law_farther : Cal l.prog w K mg base "_law_farther" ["_law_scribe_here", "_law_far"] 1 (spFar K) := ⟨_, _, ok_law_farther (P := l.prog) (w := w) (base := base) B XB  F21, F21.binds (ps := ["_law_scribe_here", "_law_far"]) (fun _ _ _ _ _ _ us hl => by obtain ⟨u0, u1, rfl⟩ := len_2 hl; rfl), F21.kp, PySem.W.mg_of X G a21⟩
  have C_law_long : Cal l.prog w K mg base "_law_long" ["_law_script"] 5 (spLong K) := ⟨_, _, ok_law_long (P := l.prog) (w := w) (base := base) B XB C_law_cell_at C_law_same C_first_way C_law_first F22, F22.binds (ps := ["_law_script"]) (fun _ _ _ _ _ _ us hl => by obtain ⟨u0, rfl⟩ := len_1 hl; rfl), F22.kp, PySem.W.mg_of X G a22⟩
  exact ok_law (P := l.prog) (w := w) (base := base) B XB C_law_scribe C_law_copied C_law_long C_law_farther C_law_text C_law_first C_first_way C_law_cell_at C_law_same C_walked_by C_law_says F23
theorem walk {l : PySem.W.OpenLaw} {q : Program} {loose : List Str} {XP : (Str → Option Value) → Heap → Prop} {YP : World → Heap → Prop} {d : DefRec} {K : Params → PySem.W.Frag} (hn : l.most = some 63) (hdf : d.params.defaults = [])
    (hY : ∀ (w : World) (h : Heap), YP w h → (K w.params).In h)
    (F : ∀ (w : World) (mg : Str → Option Value) (fa : Addr) (h : Heap), (K w.params).In h → h.Ns mainGlobals mg → mg d.name = some (.ref fa) →
      ∃ fd : FuncData, (∀ (s : Shared) (u : Value), BindsTo s fd ⟨[u], []⟩ [("_law_script", u)]) ∧ ∀ base : Heap, (K w.params).In base → base.Ns mainGlobals mg → FnOk l.prog w (K w.params) mg base CX0 6 fa fd ["_law_script"] (spLaw (K w.params))) :
    PySem.W.WalkO q loose XP YP l.row.toRowW d [] (fun f vs => PySem.call f vs) :=
  L2.walk_of (n := 63) (k := 6) (x := "_law_script") (CX := fun _ => CX0) (sp := fun w => spLaw (K w.params)) hn (by decide) hdf ⟨rfl, by decide, by decide⟩ hY F (fun _ _ a ns hl _ hS => ⟨a, ns, rfl, hS, hl, fun _ => rfl⟩) fun _ _ _ _ _ z => z
end My
open PySem PySem.W PyProof.Rows
set_option maxRecDepth 100000 in
set_option maxHeartbeats 0 in
theorem PySem.Challenge.cw_earlyscribe_k93_first_ways_holds : PySem.Challenge.rw_earlyscribe_k93_first_ways.Holds := by
  w_on; o_law
  refine holds_open (q := My.q) (loose := []) (XP := XL My.q []) (YP := InK My.K) (N := 2580) My.hl (InK.of fun _ => rfl) InK.keeps
    (fun s z => xl_of s (Bool.and_eq_true_iff.mp z).1) XL.keeps (by rfl) (by rfl) (by rfl)
    (fun s z => recFacts_of (Bool.and_eq_true_iff.mp z).2) rfl (by assumption) (by decide +kernel)
    ⟨rfl, rfl, rfl, rfl, rfl, by decide +kernel⟩ ?hw ?hc
  (case hw => w_witness2)
  k_fill
  refine My.walk (l := PySem.Challenge.rw_earlyscribe_k93_first_ways) rfl rfl (fun w h Y => Y) ?F
  case F =>
    intro w mg fa h KX G hmg
    refine' My.all_mk KX G hmg ?a0 ?l0 ?c0 ?k0 ?a1 ?l1 ?c1 ?k1 ?a2 ?l2 ?c2 ?k2 ?a3 ?l3 ?c3 ?k3 ?a4 ?l4 ?c4 ?k4 ?a5 ?l5 ?c5 ?k5 ?a6 ?l6 ?c6 ?k6 ?a7 ?l7 ?c7 ?k7 ?a8 ?l8 ?c8 ?k8 ?a9 ?l9 ?c9 ?k9 ?a10 ?l10 ?c10 ?k10 ?a11 ?l11 ?c11 ?k11 ?a12 ?l12 ?c12 ?k12 ?a13 ?l13 ?c13 ?k13 ?a14 ?l14 ?c14 ?k14 ?a15 ?l15 ?c15 ?k15 ?a16 ?l16 ?c16 ?k16 ?a17 ?l17 ?c17 ?k17 ?a18 ?l18 ?c18 ?k18 ?a19 ?l19 ?c19 ?k19 ?a20 ?l20 ?c20 ?k20 ?a21 ?l21 ?c21 ?k21 ?a22 ?l22 ?c22 ?k22 ?a23 ?l23 ?c23 ?k23 ?z0 ?z1 ?z2 ?z3 ?z4 ?z5 ?z6 ?z7 ?z8 ?z9 ?z10 ?z11 ?z12 ?z13 ?gc0 ?gc1 ?gc2 ?gc3 ?xq0 ?xq1 ?xq2 ?xq3 ?xq4 ?xq5 ?xq6 ?xq7 ?xq8 ?xq9
    (case a0 => k_is); (case l0 => k_is); (case c0 => k_is); (case k0 => k_is)
    (case a1 => k_is); (case l1 => k_is); (case c1 => k_is); (case k1 => k_is)
    (case a2 => k_is); (case l2 => k_is); (case c2 => k_is); (case k2 => k_is)
    (case a3 => k_is); (case l3 => k_is); (case c3 => k_is); (case k3 => k_is)
    (case a4 => k_is); (case l4 => k_is); (case c4 => k_is); (case k4 => k_is)
    (case a5 => k_is); (case l5 => k_is); (case c5 => k_is); (case k5 => k_is)
    (case a6 => k_is); (case l6 => k_is); (case c6 => k_is); (case k6 => k_is)
    (case a7 => k_is); (case l7 => k_is); (case c7 => k_is); (case k7 => k_is)
    (case a8 => k_is); (case l8 => k_is); (case c8 => k_is); (case k8 => k_is)
    (case a9 => k_is); (case l9 => k_is); (case c9 => k_is); (case k9 => k_is)
    (case a10 => k_is); (case l10 => k_is); (case c10 => k_is); (case k10 => k_is)
    (case a11 => k_is); (case l11 => k_is); (case c11 => k_is); (case k11 => k_is)
    (case a12 => k_is); (case l12 => k_is); (case c12 => k_is); (case k12 => k_is)
    (case a13 => k_is); (case l13 => k_is); (case c13 => k_is); (case k13 => k_is)
    (case a14 => k_is); (case l14 => k_is); (case c14 => k_is); (case k14 => k_is)
    (case a15 => k_is); (case l15 => k_is); (case c15 => k_is); (case k15 => k_is)
    (case a16 => k_is); (case l16 => k_is); (case c16 => k_is); (case k16 => k_is)
    (case a17 => k_is); (case l17 => k_is); (case c17 => k_is); (case k17 => k_is)
    (case a18 => k_is); (case l18 => k_is); (case c18 => k_is); (case k18 => k_is)
    (case a19 => k_is); (case l19 => k_is); (case c19 => k_is); (case k19 => k_is)
    (case a20 => k_is); (case l20 => k_is); (case c20 => k_is); (case k20 => k_is)
    (case a21 => k_is); (case l21 => k_is); (case c21 => k_is); (case k21 => k_is)
    (case a22 => k_is); (case l22 => k_is); (case c22 => k_is); (case k22 => k_is)
    (case a23 => k_is); (case l23 => k_is); (case c23 => k_is); (case k23 => k_is)
    (case z0 => k_is)
    (case z1 => k_is)
    (case z2 => k_is)
    (case z3 => k_is)
    (case z4 => k_is)
    (case z5 => k_is)
    (case z6 => k_is)
    (case z7 => k_is)
    (case z8 => k_is)
    (case z9 => k_is)
    (case z10 => k_is)
    (case z11 => k_is)
    (case z12 => k_is)
    (case z13 => k_is)
    (case gc0 => k_is)
    (case gc1 => k_is)
    (case gc2 => k_is)
    (case gc3 => k_is)
    (case xq0 => first | k_is | rfl | kernel_rfl)
    (case xq1 => first | k_is | rfl | kernel_rfl)
    (case xq2 => first | k_is | rfl | kernel_rfl)
    (case xq3 => first | k_is | rfl | kernel_rfl)
    (case xq4 => first | k_is | rfl | kernel_rfl)
    (case xq5 => first | k_is | rfl | kernel_rfl)
    (case xq6 => first | k_is | rfl | kernel_rfl)
    (case xq7 => first | k_is | rfl | kernel_rfl)
    (case xq8 => first | k_is | rfl | kernel_rfl)
    (case xq9 => first | k_is | rfl | kernel_rfl)
