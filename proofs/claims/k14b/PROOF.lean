import PyProof.Rows.All
import Wide.All
import OpenK.AllK
import Wide.FinOn
import Lean
import PyProof.EqAt
import PyProof.EqKinds
import PyProof.TupleCall
import PySem.Challenge.RW_earlyscribe_k14_written_for
set_option maxHeartbeats 4000000
set_option Elab.async false
set_option linter.all false
set_option maxRecDepth 100000
/-! THE HAND LAYER, for ints, bools, texts, own classes, LISTS and tuples (index, slices, in, append, pop ..), calls, loops. Paste it whole ahead of your own text; what your proof does not reach may be deleted. -/
namespace L2
open PySem PySem.Spec PyProof.Rows

abbrev Key := Sum Int Str
def keyIs : Key → Value → Bool
  | .inl k, v => Value.isInt k v
  | .inr x, v => Value.isStrOf x v
def keyH (w : World) : Key → Int
  | .inl k => hashInt k
  | .inr x => hashStr w x
theorem keyIs_shape : ∀ {k : Key} {v : Value}, keyIs k v = true → (∃ i t, k = Sum.inl i ∧ v = Value.int i t) ∨ (∃ x t, k = Sum.inr x ∧ v = Value.str x t)
  | .inl i, v, h => by
    obtain ⟨t, e⟩ := Value.isInt_shape (k := i) (v := v) h
    exact .inl ⟨i, t, rfl, e⟩
  | .inr x, v, h => by
    obtain ⟨t, e⟩ := Value.isStrOf_shape (x := x) (v := v) h
    exact .inr ⟨x, t, rfl, e⟩
theorem keyIs_int (i : Int) (t : Tok) : keyIs (.inl i) (.int i t) = true := by simp [keyIs, Value.isInt]
theorem keyIs_str (x : Str) (t : Tok) : keyIs (.inr x) (.str x t) = true := by simp [keyIs, Value.isStrOf]
theorem key_ll (a b : Int) : decide ((Sum.inl a : Key) = Sum.inl b) = (a == b) := by
  by_cases e : a = b
  · subst e; simp
  · have h : ¬ (Sum.inl a : Key) = Sum.inl b := fun q => e (Sum.inl.inj q)
    rw [decide_eq_false h]
    exact (beq_eq_false_iff_ne.mpr e).symm
theorem key_rr (a b : Str) : decide ((Sum.inr a : Key) = Sum.inr b) = decide (a = b) := by
  by_cases e : a = b
  · subst e; simp
  · have h : ¬ (Sum.inr a : Key) = Sum.inr b := fun q => e (Sum.inr.inj q)
    rw [decide_eq_false h, decide_eq_false e]
theorem key_lr (a : Int) (b : Str) : decide ((Sum.inl a : Key) = Sum.inr b) = false := decide_eq_false (fun q => nomatch q)
theorem key_rl (a : Str) (b : Int) : decide ((Sum.inr a : Key) = Sum.inl b) = false := decide_eq_false (fun q => nomatch q)

def mixKind (prog : Program) (w : World) : PySem.KeyKind prog w Key where
  is := keyIs
  hash := keyH w
  inj := fun v a b ha hb => by
    rcases keyIs_shape ha with ⟨i, t, rfl, rfl⟩ | ⟨x, t, rfl, rfl⟩
    · rcases keyIs_shape hb with ⟨j, u, rfl, e⟩ | ⟨y, u, rfl, e⟩
      · injection e with e1 _; rw [e1]
      · exact nomatch e
    · rcases keyIs_shape hb with ⟨j, u, rfl, e⟩ | ⟨y, u, rfl, e⟩
      · exact nomatch e
      · injection e with e1 _; rw [e1]
  byValue := fun k v h => by
    rcases keyIs_shape h with ⟨i, t, rfl, rfl⟩ | ⟨x, t, rfl, rfl⟩ <;> rfl
  pyHash := fun hv h => by
    rcases keyIs_shape hv with ⟨i, t, rfl, rfl⟩ | ⟨x, t, rfl, rfl⟩
    · exact wpAny_pyHash_int h
    · exact wpAny_pyHash_str h
  eqBool := fun hu hv h => by
    rcases keyIs_shape hu with ⟨i, t, rfl, rfl⟩ | ⟨x, t, rfl, rfl⟩
    · rcases keyIs_shape hv with ⟨j, u, rfl, rfl⟩ | ⟨y, u, rfl, rfl⟩
      · rw [key_ll] at h; exact wpAny_eqBool_int h
      · rw [key_lr] at h; exact SeqAt.EqAt.int_str i t y u _ _ _ _ h
    · rcases keyIs_shape hv with ⟨j, u, rfl, rfl⟩ | ⟨y, u, rfl, rfl⟩
      · rw [key_rl] at h; exact SeqAt.EqAt.str_int x t j u _ _ _ _ h
      · rw [key_rr] at h; exact wpAny_eqBool_str h
  «strs» := fun k x t v h => by
    rcases keyIs_shape h with ⟨i, u, rfl, e⟩ | ⟨y, u, rfl, e⟩
    · exact nomatch e
    · injection e with e1 _
      subst e1
      cases v <;> rfl

theorem mixKind_int (prog : Program) (w : World) (i : Int) (t : Tok) : (mixKind prog w).is (.inl i) (.int i t) = true := keyIs_int i t
theorem mixKind_str (prog : Program) (w : World) (x : Str) (t : Tok) : (mixKind prog w).is (.inr x) (.str x t) = true := keyIs_str x t
end L2

namespace L2
open PySem PySem.Spec PyProof.Rows

inductive V where
  | non | bl (b : Bool) | int (i : Int) | str (x : Str) | byt (b : Array UInt8) | flt (b : UInt64) | ref (a : Addr) | ty (n : String)
  deriving DecidableEq

def RelV : V → Value → Prop
  | .non, u => u = Value.none
  | .bl b, u => u = Value.bool b
  | .int i, u => ∃ t, u = Value.int i t
  | .str x, u => ∃ t, u = Value.str x t
  | .byt b, u => ∃ t, u = Value.bytes b t
  | .flt b, u => ∃ t, u = Value.float b t
  | .ref a, u => u = Value.ref a
  | .ty n, u => u = Value.type n

abbrev Vals : List V → List Value → Prop := Paired RelV
theorem Vals.length {xs : List V} {us : List Value} (r : Vals xs us) : xs.length = us.length := Paired.length r
theorem Vals.get : ∀ {xs : List V} {us : List Value} {i : Nat} {x : V}, Vals xs us → xs[i]? = some x → ∃ u, us[i]? = some u ∧ RelV x u
  | _, _, _, _, .nil, e => by simp at e
  | _, _, 0, _, .cons r _, e => by simp at e; subst e; exact ⟨_, rfl, r⟩
  | _, _, i + 1, x, .cons _ t, e => by
    obtain ⟨u, h1, h2⟩ := Vals.get (i := i) (x := x) t (by simpa using e)
    exact ⟨u, by simpa using h1, h2⟩
theorem Vals.append : ∀ {xs ys : List V} {us ws : List Value}, Vals xs us → Vals ys ws → Vals (xs ++ ys) (us ++ ws)
  | _, _, _, _, .nil, s => s
  | _, _, _, _, .cons r t, s => .cons r (Vals.append t s)
theorem Vals.take : ∀ {xs : List V} {us : List Value} (n : Nat), Vals xs us → Vals (xs.take n) (us.take n)
  | _, _, 0, _ => .nil
  | _, _, _ + 1, .nil => .nil
  | _, _, n + 1, .cons r t => .cons r (Vals.take n t)
theorem Vals.drop : ∀ {xs : List V} {us : List Value} (n : Nat), Vals xs us → Vals (xs.drop n) (us.drop n)
  | _, _, 0, r => r
  | _, _, _ + 1, .nil => .nil
  | _, _, n + 1, .cons _ t => Vals.drop n t
def RelO : Option V → Option Value → Prop
  | some v, some u => RelV v u
  | none, none => True
  | _, _ => False
def KV {κ : Type} : List (κ × V) → List (κ × Value) → Prop := Paired fun (p : κ × V) (q : κ × Value) => p.1 = q.1 ∧ RelV p.2 q.2

def kV : Key → V
  | .inl i => .int i
  | .inr x => .str x

inductive HO where
  /-- a list -/
  | lst (xs : List V)
  /-- a tuple (never changes) -/
  | tup (xs : List V)
  /-- a dict whose keys are ints and texts; one whose keys are tuples of ints and texts (the empty one is both) -/
  | dK (kvs : List (Key × V)) | dT (kvs : List (List Key × V))
  /-- a set of ints: its members, its size -/
  | set (S : Int → Bool) (n : Nat)
  /-- an instance of the class at C, its dict at dx, its attributes -/
  | ins (C dx : Addr) (fs : List (Str × V))
  /-- the dict of the instance at x -/
  | own (x : Addr)
  /-- the dict of an exception -/
  | xd (fs : List (Str × V))
  /-- a bound method, f of x -/
  | met (f x : Addr)
  /-- a range object lo, lo + 1, .. below hi -/
  | rng (lo hi : Int)
  /-- a thing that is known to the object (the script; a dict while a loop walks it): read, never written while it is so -/
  | frz (o : Obj) (u : HO)
  /-- a code object's table -/
  | tbl (ps : Array Value)
  /-- any other thing, by what is true of its one object (a def of one's own: SetO a S n := HO.ext fun h => ..) -/
  | ext (φ : Heap → Prop)

abbrev Hp := Addr → Option HO
def upd (H : Hp) (a : Addr) (o : HO) : Hp := fun b => if b = a then some o else H b
theorem upd_same {H : Hp} {a : Addr} {o : HO} : upd H a o a = some o := by unfold upd; rw [if_pos rfl]
theorem upd_ne {H : Hp} {a b : Addr} {o : HO} (h : b ≠ a) : upd H a o b = H b := by unfold upd; rw [if_neg h]
theorem ne_of {H : Hp} {a b : Addr} {o u : HO} (h : H a = some o) (h' : H b = some u) (d : o ≠ u) : a ≠ b := by
  intro e; subst e; rw [h] at h'; exact d (Option.some.inj h')
theorem ne_of_none {H : Hp} {a b : Addr} {o : HO} (h : H a = some o) (h' : H b = none) : a ≠ b := by
  intro e; subst e; rw [h] at h'; cases h'

section
variable (P : Program) (w : World)
def ObjOk (H : Hp) (h : Heap) (a : Addr) : HO → Prop
  | .lst xs => xs.length ≤ sizeLine ∧ ∃ (its : List Value) (n : Nat), Vals xs its ∧ h.get? a = some { cls := .type "list", data := .seq its.toArray n }
  | .tup xs => xs.length ≤ sizeLine ∧ ∃ its : List Value, Vals xs its ∧ IsTup h a its.toArray
  | .dK kvs => kvs.length ≤ sizeLine ∧ (a == sysModules) = false ∧ ∃ vs, KV kvs vs ∧ h.DictOf (mixKind P w) a vs
  | .dT kvs => kvs.length ≤ sizeLine ∧ (a == sysModules) = false ∧ ∃ xs : List (List Key × Addr × Value),
      Paired (fun (p : List Key × V) (q : List Key × Addr × Value) => p.1 = q.1 ∧ H q.2.1 = some (.tup (p.1.map kV)) ∧ RelV p.2 q.2.2) kvs xs ∧
      ∃ o es ep, h.get? a = some o ∧ o.ExactDict ∧ o.data = .dict es ep ∧ es.toList = xs.map (entryOfKey (tupleKind (mixKind P w))) ∧ (xs.map (·.1)).Nodup
  | .set S n => h.SetOf (intKind P w) a S n
  | .ins C dx fs => H dx = some (.own a) ∧ fs.length ≤ 1000 ∧ dx ≠ a ∧ h.get? a = some (PySem.W.instObj C dx) ∧
      ∃ mA, h.Ns1 dx mA ∧ (∀ f, RelO (fs.lookup f) (mA f)) ∧ PySem.Within mA (fs.map (·.1))
  | .own _ => ∃ o, h.get? a = some o
  | .xd fs => ∃ mA, h.Ns1 a mA ∧ ∀ f, RelO (fs.lookup f) (mA f)
  | .rng lo hi => ∃ t u v, h.get? a = some { cls := .type "range", data := .fields #[.int lo t, .int hi u, .int 1 v] }
  | .frz o u => h.get? a = some o ∧ ObjOk H h a u
  | .tbl ps => h.get? a = some { cls := .none, data := .fields ps }
  | .met f x => h.get? a = some (PySem.W.methodObj (.ref f) (.ref x))
  | .ext φ => φ h ∧ (∃ o, h.get? a = some o) ∧ ∀ h1 h2 : Heap, φ h1 → (∀ o, h1.get? a = some o → h2.get? a = some o) → φ h2
def HOk (H : Hp) (h : Heap) : Prop := ∀ a o, H a = some o → ObjOk P w H h a o
end

section
variable {P : Program} {w : World} {H H' : Hp} {h h' : Heap} {a : Addr} {o : HO}
theorem ObjOk.lt (x : ObjOk P w H h a o) : a < h.objs.size := by
  cases o with
  | lst xs => obtain ⟨_, _, _, _, e⟩ := x; exact Heap.lt_size e
  | tup xs => obtain ⟨_, _, _, p⟩ := x; exact p.lt
  | dK kvs => obtain ⟨_, _, _, _, o, _, _, e, _⟩ := x; exact Heap.lt_size e
  | dT kvs => obtain ⟨_, _, _, _, o, _, _, e, _⟩ := x; exact Heap.lt_size e
  | set S n => obtain ⟨o, _, _, _, e, _⟩ := x; exact Heap.lt_size e
  | ins C dx fs => obtain ⟨_, _, _, e, _⟩ := x; exact Heap.lt_size e
  | own y => obtain ⟨_, e⟩ := x; exact Heap.lt_size e
  | xd fs => obtain ⟨_, ⟨_, _, _, e, _⟩, _⟩ := x; exact Heap.lt_size e
  | rng lo hi => obtain ⟨_, _, _, e⟩ := x; exact Heap.lt_size e
  | frz ob u => obtain ⟨e, _⟩ := x; exact Heap.lt_size e
  | tbl ps => exact Heap.lt_size (show h.get? a = some _ from x)
  | met f y => exact Heap.lt_size (show h.get? a = some _ from x)
  | ext φ => obtain ⟨_, ⟨_, e⟩, _⟩ := x; exact Heap.lt_size e
theorem Paired.mapP {α β : Type} {F G : α → β → Prop} : ∀ {l₁ : List α} {l₂ : List β}, Paired F l₁ l₂ → (∀ a b, F a b → G a b) → Paired G l₁ l₂
  | _, _, .nil, _ => .nil
  | _, _, .cons r t, f => .cons (f _ _ r) (Paired.mapP t f)
theorem ObjOk.stay (x : ObjOk P w H h a o) (k : ∀ b u, (b = a ∨ H b = some (.own a)) → h.get? b = some u → h'.get? b = some u)
    (ho : ∀ b, H b = some (.own a) → H' b = some (.own a)) (ht : ∀ b xs, H b = some (.tup xs) → H' b = some (.tup xs)) : ObjOk P w H' h' a o := by
  induction o with
  | lst xs => obtain ⟨z, its, n, r, e⟩ := x; exact ⟨z, its, n, r, k _ _ (.inl rfl) e⟩
  | tup xs => obtain ⟨z, its, r, ob, e, c⟩ := x; exact ⟨z, its, r, ob, k _ _ (.inl rfl) e, c⟩
  | dK kvs => obtain ⟨z, y, vs, r, ob, es, ep, e, c⟩ := x; exact ⟨z, y, vs, r, ob, es, ep, k _ _ (.inl rfl) e, c⟩
  | dT kvs =>
    obtain ⟨z, y, xs, r, ob, es, ep, e, c⟩ := x
    exact ⟨z, y, xs, Paired.mapP r fun p q z => ⟨z.1, ht _ _ z.2.1, z.2.2⟩, ob, es, ep, k _ _ (.inl rfl) e, c⟩
  | set S n => obtain ⟨ob, es, ep, t, e, c⟩ := x; exact ⟨ob, es, ep, t, k _ _ (.inl rfl) e, c⟩
  | ins C dx fs =>
    obtain ⟨d, z, ne, e, mA, ⟨od, es, ep, e2, c⟩, r⟩ := x
    exact ⟨ho _ d, z, ne, k _ _ (.inl rfl) e, mA, ⟨od, es, ep, k _ _ (.inr d) e2, c⟩, r⟩
  | own y => obtain ⟨ob, e⟩ := x; exact ⟨ob, k _ _ (.inl rfl) e⟩
  | xd fs => obtain ⟨mA, ⟨od, es, ep, e, c⟩, r⟩ := x; exact ⟨mA, ⟨od, es, ep, k _ _ (.inl rfl) e, c⟩, r⟩
  | rng lo hi => obtain ⟨t, u, v, e⟩ := x; exact ⟨t, u, v, k _ _ (.inl rfl) e⟩
  | frz ob u ih => obtain ⟨e, q⟩ := x; exact ⟨k _ _ (.inl rfl) e, ih q⟩
  | tbl ps =>
    have e : h.get? a = some { cls := .none, data := .fields ps } := x
    show h'.get? a = some { cls := .none, data := .fields ps }
    exact k a _ (.inl rfl) e
  | met f y =>
    have e : h.get? a = some (PySem.W.methodObj (.ref f) (.ref y)) := x
    show h'.get? a = some (PySem.W.methodObj (.ref f) (.ref y))
    exact k a _ (.inl rfl) e
  | ext φ => obtain ⟨p, ⟨o, e⟩, st⟩ := x; exact ⟨st _ _ p fun o q => k _ _ (.inl rfl) q, ⟨o, k _ _ (.inl rfl) e⟩, st⟩
theorem HOk.lt (x : HOk P w H h) (e : H a = some o) : a < h.objs.size := (x a o e).lt
theorem HOk.fresh (x : HOk P w H h) (e : h.objs.size ≤ a) : H a = none := by
  cases q : H a with
  | none => rfl
  | some u => exact absurd (Nat.lt_of_lt_of_le (x.lt q) e) (Nat.lt_irrefl _)
theorem HOk.kept (x : HOk P w H h) (k : ∀ b u, h.get? b = some u → h'.get? b = some u) : HOk P w H h' := fun a o e =>
  (x a o e).stay (fun b u _ q => k b u q) (fun _ q => q) fun _ _ q => q
theorem HOk.laid (x : HOk P w H h) (k : ∀ b u, h.get? b = some u → h'.get? b = some u) (hp : h.objs.size ≤ a) (new : ObjOk P w (upd H a o) h' a o) : HOk P w (upd H a o) h' := fun b u e => by
  have hn := x.fresh hp
  by_cases hb : b = a
  · subst hb; rw [upd_same] at e; cases e; exact new
  · rw [upd_ne hb] at e
    exact (x b u e).stay (fun c v _ q => k c v q) (fun c q => by rw [upd_ne (ne_of_none q hn)]; exact q) fun c xs q => by rw [upd_ne (ne_of_none q hn)]; exact q
end

def Rd (H : Hp) (a : Addr) (u : HO) : Prop := H a = some u ∨ ∃ o, H a = some (.frz o u)
theorem Rd.ok {P : Program} {w : World} {H : Hp} {h : Heap} {a : Addr} {u : HO} (r : Rd H a u) (x : HOk P w H h) : ObjOk P w H h a u := by
  rcases r with r | ⟨o, r⟩
  · exact x a u r
  · obtain ⟨_, q⟩ := x a _ r
    exact q
def Mut : Option HO → Prop
  | some (.lst _) => True
  | some (.dK _) => True
  | some (.dT _) => True
  | some (.set _ _) => True
  | some (.ins _ _ _) => True
  | some (.ext _) => True
  | _ => False
section
variable {P : Program} {w : World} {H : Hp} {h h' : Heap} {x e : Addr} {o' : HO}
theorem HOk.write (ok : HOk P w H h) (mu : Mut (H x)) (he : e = x ∨ H e = some (.own x)) (k : ∀ b u, b ≠ e → h.get? b = some u → h'.get? b = some u) (heo : ∃ u, h'.get? e = some u)
    (new : ObjOk P w (upd H x o') h' x o') : HOk P w (upd H x o') h' := fun b u q => by
  have nown : ∀ c y, H c = some (.own y) → c ≠ x := fun c y r z => by subst z; rw [r] at mu; exact mu
  have ntup : ∀ c xs, H c = some (.tup xs) → c ≠ x := fun c xs r z => by subst z; rw [r] at mu; exact mu
  by_cases hb : b = x
  · subst hb; rw [upd_same] at q; cases q; exact new
  · rw [upd_ne hb] at q
    by_cases hbe : b = e
    · have q' : H b = some (.own x) := by
        rcases he with z | z
        · exact absurd (hbe.trans z) hb
        · rw [hbe]; exact z
      rw [q] at q'; cases q'
      obtain ⟨v, hv⟩ := heo
      exact ⟨v, by rw [hbe]; exact hv⟩
    · refine (ok b u q).stay (fun c v hc r => k c v ?_ r) (fun c r => by rw [upd_ne (nown c b r)]; exact r) fun c xs r => by rw [upd_ne (ntup c xs r)]; exact r
      rcases hc with rfl | hc
      · exact hbe
      · rintro rfl
        rcases he with z | z
        · exact nown c b hc z
        · rw [hc] at z; cases z; exact hb rfl
end

/-! ### kept unless tracked; of the frames at fs (the callers') the slots may change (an exception that passes writes there); of the records at ex (iterators) nothing is said -/
structure Un (fs ex : List Addr) (H H' : Hp) (h h' : Heap) : Prop where
  keep : ∀ b o, h.get? b = some o → H b = none → b ∉ fs → b ∉ ex → h'.get? b = some o
  slot : ∀ b o, h.get? b = some o → H b = none → b ∈ fs → b ∉ ex → ∃ sl, h'.get? b = some { o with slots := sl }
  free : ∀ b o, h.get? b = some o → H b = none → b ∉ ex → H' b = none
  there : ∀ b o, h.get? b = some o → b ∉ ex → ∃ o', h'.get? b = some o'
  tups : ∀ b xs, H b = some (.tup xs) → H' b = some (.tup xs)
  frzs : ∀ b o u, H b = some (.frz o u) → H' b = some (.frz o u)
  tbls : ∀ b ps, H b = some (.tbl ps) → ∃ more, H' b = some (.tbl (ps ++ more))
section
variable {fs fs' ex ex' : List Addr} {H H1 H2 : Hp} {h h1 h2 h' : Heap} {a x e : Addr} {o : HO}
theorem Un.any (u : Un fs ex H H1 h h1) {b : Addr} {ob : Obj} (q : h.get? b = some ob) (n : H b = none) (hx : b ∉ ex) : ∃ sl, h1.get? b = some { ob with slots := sl } := by
  by_cases hb : b ∈ fs
  · exact u.slot b ob q n hb hx
  · exact ⟨ob.slots, u.keep b ob q n hb hx⟩
theorem Un.kept (k : ∀ b u, h.get? b = some u → h'.get? b = some u) : Un fs ex H H h h' :=
  ⟨fun b ob q _ _ _ => k b ob q, fun b ob q _ _ _ => ⟨ob.slots, k b ob q⟩, fun _ _ _ n _ => n, fun b ob q _ => ⟨ob, k b ob q⟩, fun _ _ q => q, fun _ _ _ q => q, fun _ ps q => ⟨#[], by rw [q]; simp⟩⟩
theorem Un.refl : Un fs ex H H h h := Un.kept fun _ _ q => q
theorem Un.laid (k : ∀ b u, h.get? b = some u → h'.get? b = some u) (hp : h.objs.size ≤ a) (hn : H a = none) : Un fs ex H (upd H a o) h h' where
  keep := fun b u q _ _ _ => k b u q
  slot := fun b u q _ _ _ => ⟨u.slots, k b u q⟩
  free := fun b u q n _ => by rw [upd_ne (Nat.ne_of_lt (Nat.lt_of_lt_of_le (Heap.lt_size q) hp))]; exact n
  there := fun b u q _ => ⟨u, k b u q⟩
  tups := fun b xs q => by rw [upd_ne (ne_of_none q hn)]; exact q
  frzs := fun b u xs q => by rw [upd_ne (ne_of_none q hn)]; exact q
  tbls := fun b ps q => ⟨#[], by rw [upd_ne (ne_of_none q hn), q]; simp⟩
theorem Un.write (mu : Mut (H x)) (he : e = x ∨ H e = some (.own x)) (k : ∀ b u, b ≠ e → h.get? b = some u → h'.get? b = some u) (heo : ∃ u, h'.get? e = some u) : Un fs ex H (upd H x o) h h' := by
  have hx : ∀ b, H b = none → b ≠ x := fun b n z => by subst z; rw [n] at mu; exact mu
  have hb : ∀ b, H b = none → b ≠ e := fun b n z => by
    subst z
    rcases he with r | r
    · exact hx b n r
    · rw [n] at r; cases r
  have hm : ∀ b u, H b = some u → ¬ Mut (some u) → b ≠ x := fun b u q nm z => by subst z; rw [q] at mu; exact nm mu
  refine ⟨fun b u q n _ _ => k b u (hb b n) q, fun b u q n _ _ => ⟨u.slots, k b u (hb b n) q⟩, fun b u q n _ => by rw [upd_ne (hx b n)]; exact n, fun b u q _ => ?_,
    fun b xs q => by rw [upd_ne (hm b _ q fun z => z)]; exact q, fun b u xs q => by rw [upd_ne (hm b _ q fun z => z)]; exact q, fun b ps q => ⟨#[], by rw [upd_ne (hm b _ q fun z => z), q]; simp⟩⟩
  by_cases hbe : b = e
  · subst hbe; exact heo
  · exact ⟨u, k b u hbe q⟩
end

/-! ### the heap without what is tracked -/
def trk (h : Heap) (H : Hp) : List Addr := (List.range h.objs.size).filter fun a => (H a).isSome
def hidT (h : Heap) (H : Hp) : Heap := PySem.W.hideAll h (trk h H)
theorem hidT_size (h : Heap) (H : Hp) : (hidT h H).objs.size = h.objs.size := PySem.W.hideAll_size _ _
theorem hidT_get {h : Heap} {H : Hp} {b : Addr} {o : Obj} (e : h.get? b = some o) (n : H b = none) : (hidT h H).get? b = some o :=
  PySem.W.hideAll_get _ e fun hm => by
    have q : (H b).isSome = true := (List.mem_filter.mp hm).2
    rw [n] at q; simp at q
theorem of_hidT {h : Heap} {H : Hp} {b : Addr} {o : Obj} (e : (hidT h H).get? b = some o) : h.get? b = some o ∧ H b = none := by
  have e' : h.get? b = some o := PySem.W.of_hideAll (trk h H) e
  refine ⟨e', ?_⟩
  cases q : H b with
  | none => rfl
  | some x =>
    have hm : b ∈ trk h H := List.mem_filter.mpr ⟨List.mem_range.mpr (Heap.lt_size e'), by simp [q]⟩
    have z : (hidT h H).get? b = none := PySem.W.hideAll_none (trk h H) hm
    rw [z] at e; cases e

/-! ### OpenK's ledger, filled with every new object but one -/
def allNews (g h : Heap) (L : Addr) : List (Addr × Obj) := (List.range h.objs.size).filterMap fun a => if a = L ∨ (g.get? a).isSome = true then none else (h.get? a).map fun o => (a, o)
def rest (g h : Heap) (L d : Addr) : List (Addr × Obj) := (allNews g h L).filter fun p => decide (p.1 ≠ d)
end L2

namespace L2
open PySem PySem.Spec PyProof.Rows

structure Mod (K : PySem.W.Frag) (mg : Str → Option Value) (base : Heap) : Prop where
  kin : K.In base
  glob : base.Ns mainGlobals mg
  blt : ∃ mb, base.Ns builtinsNs mb ∧ ∀ x : Str, x ≠ "__name__" → mb x = bootBuiltins x
  nolimit : base.NoLimit

/-- the context: a def's body (or a comprehension's block) running. base: fixed through the whole law; s₀, H₀: the entry; outer: the frames whose slots others may change (a def's callers); stack: all frames that run;
   ex: iterators that were made ahead of the entry and are walked here (a comprehension's); fn: the names whose cells were made at the entry (a def: all; a comprehension's block: its own); calm: not within an except suite; pn: pins that every state bears; xe: what is wanted of an exception that leaves the code -/
structure Cx where
  prog : Program
  w : World
  K : PySem.W.Frag
  mg : Str → Option Value
  base : Heap
  A : Around
  N : List Str
  s₀ : Shared
  H₀ : Hp
  env : Env
  outer : List Env
  stack : List Env
  ex : List Addr
  fn : Str → Bool
  calm : Bool
  pn : List (Addr × Obj)
  xe : Value → Shared → Prop
def frs (l : List Env) : List Addr := l.filterMap (·.frame)
abbrev Cx.fs (X : Cx) : List Addr := frs X.outer

def Vis (sc : Scope) (x : Str) : Prop := sc.names.lookup x = some .local ∨ sc.names.lookup x = some .cell ∨ sc.names.lookup x = some .free
def Loc (sc : Scope) (x : Str) : Prop := sc.names.lookup x = some .local ∨ sc.names.lookup x = some .cell
def Look (env : Env) (h : Heap) (m : Str → Option Value) (x : Str) (u : Value) : Prop :=
  (env.kindOf x = some .local ∧ m x = some u) ∨ ((env.kindOf x = some .cell ∨ env.kindOf x = some .free) ∧ ∃ c, env.cells.lookup x = some c ∧ h.IsCell c (some u))

structure Cx.Ok (X : Cx) : Prop where
  mod : Mod X.K X.mg X.base
  kind : X.env.scope.kind = .function
  glob : X.env.globals = mainGlobals
  blt : X.env.builtins = builtinsNs
  above : X.s₀.heap.objs.size ≤ X.env.locals
  inj : ∀ x y c, X.env.cells.lookup x = some c → X.env.cells.lookup y = some c → x = y
  has : ∀ x, (X.env.kindOf x = some .cell ∨ X.env.kindOf x = some .free) → ∃ c, X.env.cells.lookup x = some c
  cab : ∀ x c, X.fn x = true → X.env.cells.lookup x = some c → X.s₀.heap.objs.size ≤ c
  hd : X.calm = true → X.A.handled = none
  frames : X.A.frames = some X.stack
  stk : X.stack = X.outer ∨ (X.stack = X.env :: X.outer ∧ X.env.frame = some X.env.locals)
  exf : ∀ b ∈ X.ex, b ≠ X.env.locals ∧ ∀ x c, X.env.cells.lookup x = some c → c ≠ b
  bs : ∀ b o, X.base.get? b = some o → X.s₀.heap.get? b = some o ∧ X.H₀ b = none
  bsz : X.base.objs.size ≤ X.s₀.heap.objs.size
  noex : ∀ b o, X.base.get? b = some o → b ∉ X.ex
  exfs : ∀ b ∈ X.ex, b ∉ X.fs
  funs : X.s₀.heap.FunFrames X.base X.outer
  frf : ∀ b ∈ X.fs, X.H₀ b = none

structure Inv (X : Cx) (pins : List (Addr × Obj)) (σ : List (Option V)) (H : Hp) (s : Shared) : Prop where
  ok : X.Ok
  os : s.os = X.s₀.os
  bare : AllBare s.gens
  base : Un X.fs X.ex X.H₀ H X.s₀.heap s.heap
  loc : ∃ m, s.heap.Ns X.env.locals m ∧ ∀ (i : Nat) (x : Str) (v : V), X.N[i]? = some x → σ[i]? = some (some v) → Vis X.env.scope x → ∃ u, RelV v u ∧ Look X.env s.heap m x u
  cell : ∀ x c, X.env.cells.lookup x = some c → ∃ v, s.heap.IsCell c v
  free : H X.env.locals = none
  freeC : ∀ x c, X.env.cells.lookup x = some c → H c = none
  pin : ∀ p ∈ X.pn ++ pins, s.heap.get? p.1 = some p.2 ∧ H p.1 = none ∧ p.1 ≠ X.env.locals ∧ p.1 ∉ X.fs ∧ ∀ v, p.2.data ≠ .cell v
  hok : HOk X.prog X.w H s.heap
  len : σ.length = X.N.length

section
variable {X : Cx} {pins : List (Addr × Obj)} {σ : List (Option V)} {H H' : Hp} {s : Shared} {h' : Heap}

theorem Cx.Ok.nofr (ok : X.Ok) {b : Addr} {o : Obj} (e : X.base.get? b = some o) : b ∉ X.fs := fun hb => by
  have := (ok.funs.mem hb).1
  rw [e] at this; cases this
theorem Inv.bs (I : Inv X pins σ H s) : ∀ b o, X.base.get? b = some o → s.heap.get? b = some o ∧ H b = none := fun b o e =>
  ⟨I.base.keep b o (I.ok.bs b o e).1 (I.ok.bs b o e).2 (I.ok.nofr e) (I.ok.noex b o e), I.base.free b o (I.ok.bs b o e).1 (I.ok.bs b o e).2 (I.ok.noex b o e)⟩
theorem Inv.bk (I : Inv X pins σ H s) : ∀ b o, X.base.get? b = some o → s.heap.get? b = some o := fun b o e => (I.bs b o e).1
theorem Inv.mod (I : Inv X pins σ H s) : Mod X.K X.mg X.base := I.ok.mod
theorem Inv.kIn (I : Inv X pins σ H s) : X.K.In s.heap := I.ok.mod.kin.keeps I.bk
theorem Inv.lt (I : Inv X pins σ H s) : X.env.locals < s.heap.objs.size := let ⟨_, hn, _⟩ := I.loc; hn.lt
theorem Inv.sz (I : Inv X pins σ H s) : X.s₀.heap.objs.size ≤ s.heap.objs.size := Nat.le_trans I.ok.above (Nat.le_of_lt I.lt)
theorem Inv.nofs (I : Inv X pins σ H s) {a : Addr} (h : s.heap.objs.size ≤ a) : a ∉ X.fs := fun hb => by
  obtain ⟨_, o, ho, _⟩ := I.ok.funs.mem hb
  exact absurd (Nat.lt_of_lt_of_le (Heap.lt_size ho) (Nat.le_trans I.sz h)) (Nat.lt_irrefl _)
theorem Inv.cne (I : Inv X pins σ H s) : ∀ x c, X.env.cells.lookup x = some c → c ≠ X.env.locals := fun x c e z => by
  obtain ⟨v, o, ho, hd⟩ := I.cell x c e
  obtain ⟨m, ⟨o', es, ep, ho', hd', _⟩, _⟩ := I.loc
  rw [z, ho'] at ho; cases ho; rw [hd'] at hd; cases hd
theorem Inv.funs (I : Inv X pins σ H s) : s.heap.FunFrames X.base X.outer := by
  have all : ∀ (l : List Env), (∀ b ∈ frs l, b ∈ X.fs) → X.s₀.heap.FunFrames X.base l → s.heap.FunFrames X.base l := by
    intro l
    induction l with
    | nil => intro _ _; trivial
    | cons env r ih =>
      intro hs hl
      obtain ⟨hk, ⟨L, o, hf, hn, ho, hd⟩, hr⟩ := hl
      have hL : L ∈ X.fs := hs L (by unfold frs; rw [List.filterMap_cons, hf]; exact List.mem_cons_self)
      obtain ⟨sl, e⟩ := I.base.slot L o ho (I.ok.frf L hL) hL fun z => I.ok.exfs L z hL
      exact ⟨hk, ⟨L, _, hf, hn, e, hd⟩, ih (fun b hb => hs b (by unfold frs; rw [List.filterMap_cons, hf]; exact List.mem_cons_of_mem _ hb)) hr⟩
  exact all X.outer (fun _ hb => hb) I.ok.funs

theorem Inv.stack (I : Inv X pins σ H s) : s.heap.FunFrames X.base X.stack := by
  rcases I.ok.stk with e | ⟨e, hf⟩
  · rw [e]; exact I.funs
  · rw [e]
    obtain ⟨m, hn, _⟩ := I.loc
    refine .cons (by rw [I.ok.kind]; decide) hf hn ?_ I.funs
    exact Heap.get?_none_of_le (Nat.le_trans I.ok.bsz I.ok.above)
theorem Inv.stkSub (I : Inv X pins σ H s) : ∀ b ∈ frs X.stack, b ∈ X.env.locals :: X.fs := fun b hb => by
  rcases I.ok.stk with e | ⟨e, hf⟩
  · rw [e] at hb; exact List.mem_cons_of_mem _ hb
  · rw [e] at hb
    unfold frs at hb
    rw [List.filterMap_cons, hf] at hb
    exact hb
theorem Inv.stkFree (I : Inv X pins σ H s) : ∀ b ∈ frs X.stack, H b = none := fun b hb => by
  rcases List.mem_cons.mp (I.stkSub b hb) with e | hb
  · rw [e]; exact I.free
  · obtain ⟨_, o, ho, _⟩ := I.ok.funs.mem hb
    exact I.base.free b o ho (I.ok.frf b hb) fun z => I.ok.exfs b z hb

theorem Inv.step {g' : Array GenState} {t' : Nat} {d' : Drawn} {ch : List Addr} (I : Inv X pins σ H s)
    (hch : ∀ b ∈ ch, (b ∈ X.ex ∨ X.s₀.heap.objs.size ≤ b) ∧ b ≠ X.env.locals ∧ (∀ x c, X.env.cells.lookup x = some c → c ≠ b) ∧ ∀ p ∈ X.pn ++ pins, p.1 ≠ b)
    (keep : ∀ b o, b ≠ X.env.locals → b ∉ X.fs → b ∉ ch → s.heap.get? b = some o → H b = none → h'.get? b = some o)
    (slot : ∀ b o, b ≠ X.env.locals → b ∈ X.fs → b ∉ ch → s.heap.get? b = some o → H b = none → ∃ sl, h'.get? b = some { o with slots := sl }) (free : ∀ b o, b ∉ ch → s.heap.get? b = some o → H b = none → H' b = none)
    (there : ∀ b o, b ∉ ch → s.heap.get? b = some o → ∃ o', h'.get? b = some o')
    (tups : ∀ b xs, H b = some (.tup xs) → H' b = some (.tup xs)) (frzs : ∀ b o u, H b = some (.frz o u) → H' b = some (.frz o u)) (tbls : ∀ b ps, H b = some (.tbl ps) → ∃ more, H' b = some (.tbl (ps ++ more)))
    (ns : ∀ m, s.heap.Ns X.env.locals m → h'.Ns X.env.locals m) (hok : HOk X.prog X.w H' h') (hg : AllBare g') :
    Inv X pins σ H' { s with heap := h', gens := g', drawn := d', toks := t' } := by
  have neL : ∀ b o, X.s₀.heap.get? b = some o → b ≠ X.env.locals := fun b o e => Nat.ne_of_lt (Nat.lt_of_lt_of_le (Heap.lt_size e) I.ok.above)
  have neC : ∀ b o, X.s₀.heap.get? b = some o → b ∉ X.ex → b ∉ ch := fun b o e hx hb => by
    rcases (hch b hb).1 with z | z
    · exact hx z
    · exact absurd (Nat.lt_of_lt_of_le (Heap.lt_size e) z) (Nat.lt_irrefl _)
  have cellK : ∀ x c, X.env.cells.lookup x = some c → ∀ v, s.heap.IsCell c v → h'.IsCell c v := fun x c e v ⟨o, ho, hd⟩ => by
    have nch : c ∉ ch := fun z => (hch c z).2.2.1 x c e rfl
    by_cases hc : c ∈ X.fs
    · obtain ⟨sl, q⟩ := slot c o (I.cne x c e) hc nch ho (I.freeC x c e)
      exact ⟨_, q, hd⟩
    · exact ⟨o, keep c o (I.cne x c e) hc nch ho (I.freeC x c e), hd⟩
  refine ⟨I.ok, I.os, hg, ⟨fun b o e n hb hx => ?_, fun b o e n hb hx => ?_, fun b o e n hx => ?_, fun b o e hx => ?_, fun b xs e => tups b xs (I.base.tups b xs e), fun b o xs e => frzs b o xs (I.base.frzs b o xs e), fun b ps e => ?_⟩, ?_, fun x c e => ?_, ?_, fun x c e => ?_, fun p hp => ?_, hok, I.len⟩
  · exact keep b o (neL b o e) hb (neC b o e hx) (I.base.keep b o e n hb hx) (I.base.free b o e n hx)
  · obtain ⟨sl, e1⟩ := I.base.slot b o e n hb hx
    obtain ⟨sl', e2⟩ := slot b _ (neL b o e) hb (neC b o e hx) e1 (I.base.free b o e n hx)
    exact ⟨sl', e2⟩
  · obtain ⟨o', e1⟩ := I.base.there b o e hx
    exact free b o' (neC b o e hx) e1 (I.base.free b o e n hx)
  · obtain ⟨o', e1⟩ := I.base.there b o e hx
    exact there b o' (neC b o e hx) e1
  · obtain ⟨m1, e1⟩ := I.base.tbls b ps e
    obtain ⟨m2, e2⟩ := tbls b _ e1
    exact ⟨m1 ++ m2, by rw [e2, Array.append_assoc]⟩
  · obtain ⟨m, hn, hl⟩ := I.loc
    refine ⟨m, ns m hn, fun i x v e1 e2 e3 => ?_⟩
    obtain ⟨u, r, l⟩ := hl i x v e1 e2 e3
    refine ⟨u, r, ?_⟩
    rcases l with l | ⟨k, c, e, z⟩
    · exact .inl l
    · exact .inr ⟨k, c, e, cellK x c e _ z⟩
  · obtain ⟨v, z⟩ := I.cell x c e
    exact ⟨v, cellK x c e v z⟩
  · obtain ⟨m, ⟨o, _, _, ho, _⟩, _⟩ := I.loc
    exact free _ o (fun z => (hch _ z).2.1 rfl) ho I.free
  · obtain ⟨v, o, ho, hd⟩ := I.cell x c e
    exact free c o (fun z => (hch c z).2.2.1 x c e rfl) ho (I.freeC x c e)
  · obtain ⟨e, n, ne, nf, d⟩ := I.pin p hp
    have nch : p.1 ∉ ch := fun z => (hch p.1 z).2.2.2 p hp rfl
    exact ⟨keep p.1 p.2 ne nf nch e n, free p.1 p.2 nch e n, ne, nf, d⟩
theorem Inv.un {t' : Nat} (I : Inv X pins σ H s) (u : Un X.fs [] H H' s.heap h') (hok : HOk X.prog X.w H' h') : Inv X pins σ H' { s with heap := h', toks := t' } := by
  obtain ⟨m, ⟨o, es, ep, ho, r⟩, _⟩ := id I.loc
  obtain ⟨sl, hL⟩ := u.any ho I.free (by simp)
  exact I.step (g' := s.gens) (d' := s.drawn) (ch := []) (fun _ z => nomatch z) (fun b o _ hb _ e n => u.keep b o e n hb (by simp)) (fun b o _ hb _ e n => u.slot b o e n hb (by simp)) (fun b o _ e n => u.free b o e n (by simp)) (fun b o _ e => u.there b o e (by simp)) u.tups u.frzs u.tbls (fun m' hm => by
    obtain ⟨o', es', ep', ho', r'⟩ := hm
    rw [ho] at ho'; cases ho'
    exact ⟨_, es', ep', hL, r'⟩) hok I.bare
theorem Inv.call {g' : Array GenState} {t' : Nat} {d' : Drawn} {ch : List Addr} (I : Inv X pins σ H s) (u : Un (frs X.stack) ch H H' s.heap h') (hok : HOk X.prog X.w H' h') (hg : AllBare g')
    (hch : ∀ b ∈ ch, (b ∈ X.ex ∨ X.s₀.heap.objs.size ≤ b) ∧ b ≠ X.env.locals ∧ (∀ x c, X.env.cells.lookup x = some c → c ≠ b) ∧ ∀ p ∈ X.pn ++ pins, p.1 ≠ b) :
    Inv X pins σ H' { s with heap := h', gens := g', drawn := d', toks := t' } := by
  obtain ⟨m, ⟨o, es, ep, ho, r⟩, _⟩ := id I.loc
  obtain ⟨sl, hL⟩ := u.any ho I.free fun z => (hch _ z).2.1 rfl
  exact I.step (ch := ch) hch (fun b o hL hb hc e n => u.keep b o e n (fun z => (List.mem_cons.mp (I.stkSub b z)).elim hL hb) hc) (fun b o _ _ hc e n => u.any e n hc) (fun b o hc e n => u.free b o e n hc) (fun b o hc e => u.there b o e hc) u.tups u.frzs u.tbls (fun m' hm => by
    obtain ⟨o', es', ep', ho', r'⟩ := hm
    rw [ho] at ho'; cases ho'
    exact ⟨_, es', ep', hL, r'⟩) hok hg
theorem Inv.turned {t' : Nat} {it : Addr} (I : Inv X pins σ H s) (k : ∀ b o, b ≠ it → s.heap.get? b = some o → h'.get? b = some o) (hn : H it = none) (hL : it ≠ X.env.locals)
    (h1 : it ∈ X.ex ∨ X.s₀.heap.objs.size ≤ it) (h2 : ∀ x c, X.env.cells.lookup x = some c → c ≠ it) (h3 : ∀ p ∈ X.pn ++ pins, p.1 ≠ it) : Inv X pins σ H { s with heap := h', toks := t' } := by
  have nit : ∀ b u, H b = some u → b ≠ it := fun b u e z => by rw [z, hn] at e; cases e
  refine I.step (g' := s.gens) (d' := s.drawn) (ch := [it]) (fun b hb => ?_) (fun b o _ _ hc e _ => k b o (fun z => hc (by simp [z])) e) (fun b o _ _ hc e _ => ⟨o.slots, k b o (fun z => hc (by simp [z])) e⟩) (fun _ _ _ _ n => n)
    (fun b o hc e => ⟨o, k b o (fun z => hc (by simp [z])) e⟩) (fun _ _ e => e) (fun _ _ _ e => e) (fun b ps e => ⟨#[], by rw [e]; simp⟩) (fun m hm => ?_) (fun b u e => ?_) I.bare
  · have e : b = it := by simpa using hb
    subst e
    exact ⟨h1, hL, h2, h3⟩
  · obtain ⟨o, es, ep, ho, r⟩ := hm
    exact ⟨o, es, ep, k _ o (Ne.symm hL) ho, r⟩
  · refine (I.hok b u e).stay (fun c v hc q => k c v ?_ q) (fun _ q => q) fun _ _ q => q
    rcases hc with z | z
    · rw [z]; exact nit b u e
    · exact nit c _ z
theorem Inv.tok (I : Inv X pins σ H s) (t : Nat) : Inv X pins σ H { s with toks := t } := I.un (h' := s.heap) (t' := t) Un.refl I.hok
theorem Inv.kept {t' : Nat} (I : Inv X pins σ H s) (k : ∀ b u, s.heap.get? b = some u → h'.get? b = some u) : Inv X pins σ H { s with heap := h', toks := t' } := I.un (Un.kept k) (I.hok.kept k)
theorem Inv.laid {a : Addr} {o : HO} {t' : Nat} (I : Inv X pins σ H s) (k : ∀ b u, s.heap.get? b = some u → h'.get? b = some u) (hp : s.heap.objs.size ≤ a) (new : ObjOk X.prog X.w (upd H a o) h' a o) :
    Inv X pins σ (upd H a o) { s with heap := h', toks := t' } := I.un (Un.laid k hp (I.hok.fresh hp)) (I.hok.laid k hp new)
theorem Inv.write {x e : Addr} {o : HO} {t' : Nat} (I : Inv X pins σ H s) (mu : Mut (H x)) (he : e = x ∨ H e = some (.own x)) (k : ∀ b u, b ≠ e → s.heap.get? b = some u → h'.get? b = some u) (heo : ∃ u, h'.get? e = some u)
    (new : ObjOk X.prog X.w (upd H x o) h' x o) : Inv X pins σ (upd H x o) { s with heap := h', toks := t' } := I.un (Un.write mu he k heo) (I.hok.write mu he k heo new)
theorem Inv.pins_of {pins' : List (Addr × Obj)} (I : Inv X pins σ H s) (h : ∀ p ∈ pins', s.heap.get? p.1 = some p.2 ∧ H p.1 = none ∧ p.1 ≠ X.env.locals ∧ p.1 ∉ X.fs ∧ ∀ v, p.2.data ≠ .cell v) : Inv X pins' σ H s :=
  ⟨I.ok, I.os, I.bare, I.base, I.loc, I.cell, I.free, I.freeC, fun p hp => (List.mem_append.mp hp).elim (fun z => I.pin p (List.mem_append_left _ z)) (h p), I.hok, I.len⟩

theorem nodup_ix {N : List Str} (hN : N.Nodup) {i j : Nat} {x : Str} (a : N[i]? = some x) (b : N[j]? = some x) : i = j := by
  obtain ⟨h1, e1⟩ := List.getElem?_eq_some_iff.mp a
  obtain ⟨h2, e2⟩ := List.getElem?_eq_some_iff.mp b
  exact (List.getElem_inj hN).mp (e1.trans e2.symm)

theorem store_ok2 {M : Model} {A : Around} {E : Value → Shared → Prop} {i : Nat} {x : Str} {v : V} {u : Value} {Q : Unit → Shared → Prop} (I : Inv X pins σ H s) (hN : X.N.Nodup) (hi : X.N[i]? = some x) (hx : Loc X.env.scope x) (r : RelV v u)
    (h : ∀ s', Inv X pins (σ.set i (some v)) H s' → (∃ a, Heap.SameBut a s.heap s'.heap ∧ (a = X.env.locals ∨ X.env.cells.lookup x = some a)) → Q () s') (hf : X.fn x = true ∨ X.env.scope.names.lookup x = some .local := by first | exact .inl rfl | exact .inr rfl | assumption) : wpAny M A (storeName X.env x u) Q E s := by
  obtain ⟨m, hn, hl⟩ := id I.loc
  have hcls : (X.env.scope.kind == .class || (X.env.scope.kind == .module && X.env.locals != X.env.globals)) = false := by rw [I.ok.kind]; rfl
  have hiσ : i < σ.length := by rw [I.len]; exact (List.getElem?_eq_some_iff.mp hi).1
  have cne := I.cne
  have tracked : ∀ {a : Addr} {h' : Heap}, (∃ o, s.heap.get? a = some o ∧ H a = none) → Heap.SameBut a s.heap h' → HOk X.prog X.w H h' := fun {a h'} ha hs b ob e => by
    obtain ⟨_, _, hfree⟩ := ha
    refine (I.hok b ob e).stay (fun c w' hc q => (hs.2 c ?_).trans q) (fun _ q => q) fun _ _ q => q
    rintro rfl
    rcases hc with rfl | hc
    · rw [hfree] at e; cases e
    · rw [hfree] at hc; cases hc
  rcases hx with hk | hk
  · refine wpAny_storeName_local hk hn (fun h' hn' hs => ?_) hcls
    obtain ⟨oL, _, _, hoL, _⟩ := id hn
    refine h _ ⟨I.ok, I.os, I.bare, ⟨fun b o e n hb hx => ?_, fun b o e n hb hx => ?_, I.base.free, fun b o e hx => ?_, I.base.tups, I.base.frzs, I.base.tbls⟩, ⟨_, hn', fun j y v' e1 e2 e3 => ?_⟩, fun y c e => ?_, I.free, I.freeC, fun p hp => ?_, tracked ⟨oL, hoL, I.free⟩ hs, by simpa using I.len⟩ ⟨_, hs, .inl rfl⟩
    · exact (hs.2 b (Nat.ne_of_lt (Nat.lt_of_lt_of_le (Heap.lt_size e) I.ok.above))).trans (I.base.keep b o e n hb hx)
    · obtain ⟨sl, e1⟩ := I.base.slot b o e n hb hx
      exact ⟨sl, (hs.2 b (Nat.ne_of_lt (Nat.lt_of_lt_of_le (Heap.lt_size e) I.ok.above))).trans e1⟩
    · obtain ⟨o', e1⟩ := I.base.there b o e hx
      exact ⟨o', (hs.2 b (Nat.ne_of_lt (Nat.lt_of_lt_of_le (Heap.lt_size e) I.ok.above))).trans e1⟩
    · by_cases hj : j = i
      · subst hj
        rw [hi] at e1; cases e1
        rw [List.getElem?_set_self hiσ] at e2
        cases e2
        exact ⟨u, r, .inl ⟨hk, by simp⟩⟩
      · rw [List.getElem?_set_ne (Ne.symm hj)] at e2
        obtain ⟨u', r', q⟩ := hl j y v' e1 e2 e3
        refine ⟨u', r', ?_⟩
        rcases q with ⟨k, e⟩ | ⟨k, c, e, z⟩
        · refine .inl ⟨k, ?_⟩
          have : y ≠ x := fun e => hj (nodup_ix hN e1 (e ▸ hi))
          simp [this, e]
        · exact .inr ⟨k, c, e, z.sameBut hs (cne y c e)⟩
    · obtain ⟨w', z⟩ := I.cell y c e
      exact ⟨w', z.sameBut hs (cne y c e)⟩
    · obtain ⟨e, n, ne, nf, d⟩ := I.pin p hp
      exact ⟨(hs.2 p.1 ne).trans e, n, ne, nf, d⟩
  · have hfn : X.fn x = true := by
      rcases hf with z | z
      · exact z
      · rw [z] at hk; cases hk
    obtain ⟨c, hc⟩ := I.ok.has x (.inl hk)
    obtain ⟨w', z⟩ := I.cell x c hc
    refine wpAny_storeName_cell I.ok.kind hk hc z (fun h' hc' hs => ?_)
    obtain ⟨oc, hoc, hocd⟩ := id z
    refine h { s with heap := h' } ⟨I.ok, I.os, I.bare, ⟨fun b o e n hb hx => ?_, fun b o e n hb hx => ?_, I.base.free, fun b o e hx => ?_, I.base.tups, I.base.frzs, I.base.tbls⟩, ⟨m, hn.sameBut hs (Ne.symm (cne x c hc)), fun j y v' e1 e2 e3 => ?_⟩, fun y c' e => ?_, I.free, I.freeC, fun p hp => ?_, tracked ⟨oc, hoc, I.freeC x c hc⟩ hs, by simpa using I.len⟩ ⟨c, hs, .inr hc⟩
    · exact (hs.2 b (Nat.ne_of_lt (Nat.lt_of_lt_of_le (Heap.lt_size e) (I.ok.cab x c hfn hc)))).trans (I.base.keep b o e n hb hx)
    · obtain ⟨sl, e1⟩ := I.base.slot b o e n hb hx
      exact ⟨sl, (hs.2 b (Nat.ne_of_lt (Nat.lt_of_lt_of_le (Heap.lt_size e) (I.ok.cab x c hfn hc)))).trans e1⟩
    · obtain ⟨o', e1⟩ := I.base.there b o e hx
      exact ⟨o', (hs.2 b (Nat.ne_of_lt (Nat.lt_of_lt_of_le (Heap.lt_size e) (I.ok.cab x c hfn hc)))).trans e1⟩
    · by_cases hj : j = i
      · subst hj
        rw [hi] at e1; cases e1
        rw [List.getElem?_set_self hiσ] at e2
        cases e2
        exact ⟨u, r, .inr ⟨.inl hk, c, hc, hc'⟩⟩
      · rw [List.getElem?_set_ne (Ne.symm hj)] at e2
        obtain ⟨u', r', q⟩ := hl j y v' e1 e2 e3
        refine ⟨u', r', ?_⟩
        rcases q with q | ⟨k, c', e, z'⟩
        · exact .inl q
        · refine .inr ⟨k, c', e, z'.sameBut hs ?_⟩
          rintro rfl
          exact hj (nodup_ix hN e1 (I.ok.inj _ _ _ e hc ▸ hi))
    · by_cases hcc : c' = c
      · subst hcc; exact ⟨_, hc'⟩
      · obtain ⟨w2, z2⟩ := I.cell y c' e
        exact ⟨w2, z2.sameBut hs hcc⟩
    · obtain ⟨e, n, ne, nf, d⟩ := I.pin p hp
      refine ⟨(hs.2 p.1 ?_).trans e, n, ne, nf, d⟩
      intro q
      rw [q, hoc] at e
      have q' : oc = p.2 := Option.some.inj e
      exact d w' (by rw [← q']; exact hocd)
theorem store_ok {M : Model} {A : Around} {E : Value → Shared → Prop} {i : Nat} {x : Str} {v : V} {u : Value} {Q : Unit → Shared → Prop} (I : Inv X pins σ H s) (hN : X.N.Nodup) (hi : X.N[i]? = some x) (hx : Loc X.env.scope x) (r : RelV v u)
    (h : ∀ s', Inv X pins (σ.set i (some v)) H s' → Q () s') (hf : X.fn x = true ∨ X.env.scope.names.lookup x = some .local := by first | exact .inl rfl | exact .inr rfl | assumption) : wpAny M A (storeName X.env x u) Q E s :=
  store_ok2 I hN hi hx r (fun s' I' _ => h s' I') hf
theorem Inv.call' {s' : Shared} {ch : List Addr} (I : Inv X pins σ H s) (ho : s'.os = s.os) (u : Un (frs X.stack) ch H H' s.heap s'.heap) (hok : HOk X.prog X.w H' s'.heap) (hg : AllBare s'.gens)
    (hch : ∀ b ∈ ch, (b ∈ X.ex ∨ X.s₀.heap.objs.size ≤ b) ∧ b ≠ X.env.locals ∧ (∀ x c, X.env.cells.lookup x = some c → c ≠ b) ∧ ∀ p ∈ X.pn ++ pins, p.1 ≠ b) : Inv X pins σ H' s' := by
  obtain ⟨h', g', d', t', o'⟩ := s'
  have e : o' = s.os := ho
  subst e
  exact I.call (g' := g') (t' := t') (d' := d') u hok hg hch
end

/-! ### the judgements -/
abbrev XK := Value → Option Addr → Hp → Prop
abbrev St := List (Option V)
abbrev VK := V → Hp → Prop
abbrev TE := St → Hp → VK → Prop
abbrev TT := St → Hp → (Bool → Hp → Prop) → Prop
abbrev TA := St → Hp → (List V → Hp → Prop) → Prop
structure Ends where
  nx : St → Hp → Prop
  rt : VK
  bk : St → Hp → Prop := fun _ _ => False
  ct : St → Hp → Prop := fun _ _ => False
abbrev TS := Ends → St → Hp → Prop

def EP (X : Cx) (pins : List (Addr × Obj)) (σ : St) (Q : VK) (u : Value) (s' : Shared) : Prop := ∃ v H', Inv X pins σ H' s' ∧ RelV v u ∧ Q v H'
def TP (X : Cx) (pins : List (Addr × Obj)) (σ : St) (Q : Bool → Hp → Prop) (b : Bool) (s' : Shared) : Prop := ∃ H', Inv X pins σ H' s' ∧ Q b H'
def AP (X : Cx) (pins : List (Addr × Obj)) (σ : St) (Q : List V → Hp → Prop) (us : List Value) (s' : Shared) : Prop := ∃ vs H', Inv X pins σ H' s' ∧ Vals vs us ∧ Q vs H'
def SP (X : Cx) (pins : List (Addr × Obj)) (D : Ends) (f : Flow) (s' : Shared) : Prop :=
  match f with
  | .next => ∃ σ' H', Inv X pins σ' H' s' ∧ D.nx σ' H'
  | .brk => ∃ σ' H', Inv X pins σ' H' s' ∧ D.bk σ' H'
  | .cont => ∃ σ' H', Inv X pins σ' H' s' ∧ D.ct σ' H'
  | .ret u => ∃ v σ' H', Inv X pins σ' H' s' ∧ RelV v u ∧ D.rt v H'

def PE (X : Cx) (e : Expr) (t : TE) : Prop :=
  ∀ (pins : List (Addr × Obj)) (s : Shared) (σ : St) (H : Hp) (Q : VK), Inv X pins σ H s → t σ H Q → wpAny (model X.prog X.w) X.A (eval e X.env) (EP X pins σ Q) X.xe s
def PT (X : Cx) (e : Expr) (t : TT) : Prop :=
  ∀ (pins : List (Addr × Obj)) (s : Shared) (σ : St) (H : Hp) (Q : Bool → Hp → Prop), Inv X pins σ H s → t σ H Q → wpAny (model X.prog X.w) X.A (isTrue e X.env (eval e X.env)) (TP X pins σ Q) X.xe s
def PW (X : Cx) (e : Expr) (t : TT) : Prop :=
  ∀ (whole : Sem Value) (pins : List (Addr × Obj)) (s : Shared) (σ : St) (H : Hp) (Q : Bool → Hp → Prop), Inv X pins σ H s → t σ H Q → wpAny (model X.prog X.w) X.A (isTrue e X.env whole) (TP X pins σ Q) X.xe s
theorem PW.pt {X : Cx} {e : Expr} {t : TT} (h : PW X e t) : PT X e t := h _
def PA (X : Cx) (es : List Expr) (t : TA) : Prop :=
  ∀ (pos : Pos) (pins : List (Addr × Obj)) (s : Shared) (σ : St) (H : Hp) (Q : List V → Hp → Prop), Inv X pins σ H s → t σ H Q → wpAny (model X.prog X.w) X.A (spliced (backTo pos (starEach es X.env))) (AP X pins σ Q) X.xe s
def PS (X : Cx) (st : Stmt) (t : TS) : Prop :=
  ∀ (pins : List (Addr × Obj)) (s : Shared) (σ : St) (H : Hp) (D : Ends), Inv X pins σ H s → t D σ H → wpAny (model X.prog X.w) X.A (exec st X.env) (SP X pins D) X.xe s
def PSs (X : Cx) (st : List Stmt) (t : TS) : Prop :=
  ∀ (pins : List (Addr × Obj)) (s : Shared) (σ : St) (H : Hp) (D : Ends), Inv X pins σ H s → t D σ H → wpAny (model X.prog X.w) X.A (execs st X.env) (SP X pins D) X.xe s
theorem thn {α : Type} {t : Sem α} {Q Q' : α → Shared → Prop} {M : Model} {A : Around} {E : Value → Shared → Prop} {s : Shared} (h : wpAny M A t Q E s) (hQ : ∀ a s, Q a s → Q' a s) : wpAny M A t Q' E s := wpAny_mono h hQ fun _ _ x => x
end L2

namespace L2
open PySem PySem.Spec PyProof.Rows
section
variable {X : Cx}

/-! ### names and constants -/
def tVar (i : Nat) : TE := fun σ H Q => ∃ v, σ[i]? = some (some v) ∧ Q v H
def tC (v : V) : TE := fun _ H Q => Q v H
theorem pe_var {i : Nat} {x : Str} {pos : Pos} (hN : X.N[i]? = some x) (hv : Vis X.env.scope x) (hd : (x == ("__debug__" : Str)) = false := by decide) (hcd : (x == ("__classdict__" : Str)) = false := by decide) : PE X (.Name x pos) (tVar i) := by
  intro pins s σ H Q I h
  obtain ⟨v, e, h⟩ := h
  obtain ⟨m, hn, hl⟩ := I.loc
  obtain ⟨u, r, l⟩ := hl i x v hN e hv
  have fin : EP X pins σ Q u s := ⟨v, H, I, r, h⟩
  rcases l with ⟨hk, hm⟩ | ⟨hk, c, hc, hcell⟩
  · exact wpAny_Name (wpAny_loadName_local I.ok.kind hk hn hm fin) hd
  · rcases hk with hk | hk
    · exact wpAny_Name (wpAny_loadName_cell I.ok.kind hk hc hcell fin) hd
    · exact wpAny_Name (wpAny_loadName_free I.ok.kind hk hc hcell fin hcd) hd
theorem pe_int {i j pos} : PE X (.Constant (.int i) j pos) (tC (.int i)) := fun _ _ _ H _ I h => wpAny_Constant_int ⟨.int i, H, I.tok _, ⟨_, rfl⟩, h⟩
theorem pe_bl {b j pos} : PE X (.Constant (.bool b) j pos) (tC (.bl b)) := fun _ _ _ H _ I h => Constant_bool ⟨.bl b, H, I, rfl, h⟩
theorem pe_non {j pos} : PE X (.Constant .none j pos) (tC .non) := fun _ _ _ H _ I h => Constant_none ⟨.non, H, I, rfl, h⟩
theorem pe_str {x j pos} : PE X (.Constant (.str x) j pos) (tC (.str x)) := fun _ _ _ H _ I h => Calls.Constant_str ⟨.str x, H, I.tok _, ⟨_, rfl⟩, h⟩

def Gl (X : Cx) (x : Str) : Prop := X.env.kindOf x = some .globalImplicit
theorem ld_glob {E : Value → Shared → Prop} {pins : List (Addr × Obj)} {s : Shared} {σ : St} {H : Hp} {x : Str} {u : Value} {pos : Pos} {Q : Value → Shared → Prop} (I : Inv X pins σ H s) (hg : Gl X x) (hm : X.mg x = some u) (h : Q u s)
    (hd : (x == ("__debug__" : Str)) = false := by decide) : wpAny (model X.prog X.w) X.A (eval (.Name x pos) X.env) Q E s :=
  Calls.Name_function_global I.ok.kind hg (Calls.loadGlobal_global (by rw [I.ok.glob]; exact I.mod.glob.keeps I.bk) hm h) hd
theorem ld_blt {E : Value → Shared → Prop} {pins : List (Addr × Obj)} {s : Shared} {σ : St} {H : Hp} {x : Str} {u : Value} {pos : Pos} {Q : Value → Shared → Prop} (I : Inv X pins σ H s) (hg : Gl X x) (hm : X.mg x = none) (hv : bootBuiltins x = some u) (h : Q u s)
    (hn : x ≠ "__name__" := by decide) (hd : (x == ("__debug__" : Str)) = false := by decide) : wpAny (model X.prog X.w) X.A (eval (.Name x pos) X.env) Q E s := by
  obtain ⟨mb, h1, h2⟩ := I.mod.blt
  exact Calls.Name_function_global I.ok.kind hg (Calls.loadGlobal_builtin (by rw [I.ok.glob]; exact I.mod.glob.keeps I.bk) hm (by rw [I.ok.blt]; exact h1.keeps I.bk) ((h2 x hn).trans hv) h) hd
theorem pe_glob {x : Str} {v : V} {u : Value} {pos : Pos} (hg : Gl X x) (hm : X.mg x = some u) (r : RelV v u) (hd : (x == ("__debug__" : Str)) = false := by decide) : PE X (.Name x pos) (tC v) :=
  fun _ _ _ H _ I h => ld_glob I hg hm ⟨v, H, I, r, h⟩ hd
theorem pe_bltn {x : Str} {v : V} {u : Value} {pos : Pos} (hg : Gl X x) (hm : X.mg x = none) (hv : bootBuiltins x = some u) (r : RelV v u) (hn : x ≠ "__name__" := by decide) (hd : (x == ("__debug__" : Str)) = false := by decide) : PE X (.Name x pos) (tC v) :=
  fun _ _ _ H _ I h => ld_blt I hg hm hv ⟨v, H, I, r, h⟩ hn hd

/-! ### arithmetic -/
variable {a b : Expr} {ta tb : TE} {pos : Pos}
/-! ### comparisons -/
def PC (X : Cx) (op : CmpOp) (a b : Expr) (t : TE) : Prop :=
  ∀ (pins : List (Addr × Obj)) (s : Shared) (σ : St) (H : Hp) (Q : VK), Inv X pins σ H s → t σ H Q →
    wpAny (model X.prog X.w) X.A (eval a X.env) (fun v s₁ => wpAny (model X.prog X.w) X.A (eval b X.env) (fun u s₂ => wpAny (model X.prog X.w) X.A (compareOp op v u) (EP X pins σ Q) X.xe s₂) X.xe s₁) X.xe s
def tB (t : TE) : TT := fun σ H Q => t σ H fun x H1 => ∃ c, x = .bl c ∧ Q c H1
theorem pt_cmp {op : CmpOp} {t : TE} (h : PC X op a b t) (h1 : behindInMarks op b = false := by first | exact nobehind _ (by decide) (by decide) | rfl) : PT X (.Compare a [op] [b] pos) (tB t) := by
  intro pins s σ H Q I hw
  refine wpAny_isTrue_Compare1 (thn (h pins s σ H _ I hw) fun v s1 h1 => thn h1 fun u s2 h2 => thn h2 fun c s3 ⟨x, H1, I1, r1, q1⟩ => ?_) h1
  obtain ⟨d, rfl, q⟩ := q1
  cases r1
  exact wpAny_truthy_bool ⟨H1, I1, q⟩
theorem pt_val {e : Expr} {t : TE} (h : PE X e t) (he : ∀ whole, isTrue e X.env whole = (do let v ← whole; standAt e.pos; holding [v] (truthy v)) := by intro _; rfl) : PT X e (tB t) := by
  intro pins s σ H Q I hw
  refine isTrue_plain (thn (h pins s σ H _ I hw) fun v s1 ⟨x, H1, I1, r1, q1⟩ => ?_) (he _)
  obtain ⟨d, rfl, q⟩ := q1
  cases r1
  exact wpAny_truthy_bool ⟨H1, I1, q⟩

/-! ### and, or, not -/
variable {tA tB' : TT} {rest : List Expr}
def tAnd (t u : TT) : TT := fun σ H Q => t σ H fun c H1 => if c = true then u σ H1 Q else Q false H1
def tOr (t u : TT) : TT := fun σ H Q => t σ H fun c H1 => if c = true then Q true H1 else u σ H1 Q
def tNot (t : TT) : TT := fun σ H Q => t σ H fun c H1 => Q (!c) H1
theorem pw_and1 (ha : PT X a tA) : PW X (.BoolOp .And [a] pos) tA := by
  intro wh pins s σ H Q I h
  refine isTrue_and (thn (ha pins s σ H Q I h) fun c s1 e => ?_)
  cases c with
  | true => exact isTrue_and_nil e
  | false => exact e
theorem pw_or1 (ha : PT X a tA) : PW X (.BoolOp .Or [a] pos) tA := by
  intro wh pins s σ H Q I h
  refine isTrue_or (thn (ha pins s σ H Q I h) fun c s1 e => ?_)
  cases c with
  | false => exact isTrue_or_nil e
  | true => exact e
theorem pw_and (ha : PT X a tA) (hb : PW X (.BoolOp .And (b :: rest) pos) tB') : PW X (.BoolOp .And (a :: b :: rest) pos) (tAnd tA tB') := by
  intro wh pins s σ H Q I h
  refine isTrue_and (thn (ha pins s σ H _ I h) fun c s1 ⟨H1, I1, q1⟩ => ?_)
  cases c with
  | true => exact hb wh pins s1 σ H1 Q I1 q1
  | false => exact ⟨H1, I1, q1⟩
theorem pw_or (ha : PT X a tA) (hb : PW X (.BoolOp .Or (b :: rest) pos) tB') : PW X (.BoolOp .Or (a :: b :: rest) pos) (tOr tA tB') := by
  intro wh pins s σ H Q I h
  refine isTrue_or (thn (ha pins s σ H _ I h) fun c s1 ⟨H1, I1, q1⟩ => ?_)
  cases c with
  | true => exact ⟨H1, I1, q1⟩
  | false => exact hb wh pins s1 σ H1 Q I1 q1
theorem pt_not (ha : PT X a tA) : PT X (.UnaryOp .Not a pos) (tNot tA) := by
  intro pins s σ H Q I h
  exact isTrue_not (ha pins s σ H (fun c H1 => Q (!c) H1) I h)
def tAndV (ta tb : TE) : TE := fun σ H Q => ta σ H fun x H1 => ∃ c, x = .bl c ∧ if c = true then tb σ H1 Q else Q (.bl false) H1
def tNotV (ta : TE) : TE := fun σ H Q => ta σ H fun x H1 => ∃ c, x = .bl c ∧ Q (.bl (!c)) H1
theorem pe_one {op} {t : TE} (h : PE X a t) : PE X (.BoolOp op [a] pos) t := fun pins s σ H Q I hw => BoolOp_one (h pins s σ H Q I hw)
theorem pe_and (ha : PE X a ta) (hb : PE X (.BoolOp .And (b :: rest) pos) tb) : PE X (.BoolOp .And (a :: b :: rest) pos) (tAndV ta tb) := by
  intro pins s σ H Q I h
  refine BoolOp_and (thn (ha pins s σ H _ I h) fun v s1 ⟨x, H1, I1, r1, q1⟩ => ?_)
  obtain ⟨c, rfl, q1⟩ := q1
  cases r1
  refine wpAny_truthy_bool ?_
  cases c with
  | true => exact hb pins s1 σ H1 Q I1 q1
  | false => exact ⟨.bl false, H1, I1, rfl, q1⟩
theorem pe_not (ha : PE X a ta) : PE X (.UnaryOp .Not a pos) (tNotV ta) := by
  intro pins s σ H Q I h
  refine UnaryOp_ (thn (ha pins s σ H _ I h) fun v s1 ⟨x, H1, I1, r1, q1⟩ => ?_)
  obtain ⟨c, rfl, q1⟩ := q1
  cases r1
  exact not_of (wpAny_truthy_bool ⟨.bl (!c), H1, I1, rfl, q1⟩)
end
end L2

namespace L2
open PySem PySem.Spec PyProof.Rows

/-! ### a list, a tuple that is read: tracked, frozen, or an object of the module -/
def SqL (K : PySem.W.Frag) (H : Hp) (a : Addr) (xs : List V) : Prop :=
  Rd H a (.lst xs) ∨
    ∃ (o : Obj) (its : Array Value) (n : Nat), K.lookup a = some o ∧ o.cls = .type "list" ∧ o.dict = none ∧ o.data = .seq its n ∧ its.size ≤ sizeLine ∧ Vals xs its.toList
def SqT (K : PySem.W.Frag) (H : Hp) (a : Addr) (xs : List V) : Prop :=
  Rd H a (.tup xs) ∨
    ∃ (o : Obj) (its : Array Value) (n : Nat), K.lookup a = some o ∧ o.cls = .type "tuple" ∧ o.data = .seq its n ∧ its.size ≤ sizeLine ∧ Vals xs its.toList
def absV : Value → Option V
  | .none => some .non
  | .bool b => some (.bl b)
  | .int i _ => some (.int i)
  | .str x _ => some (.str x)
  | .bytes b _ => some (.byt b)
  | .float b _ => some (.flt b)
  | .ref a => some (.ref a)
  | .type n => some (.ty n)
  | _ => none
theorem RelV.abs {x : V} {u : Value} (r : RelV x u) : absV u = some x := by
  cases x with
  | non => cases r; rfl
  | bl _ => cases r; rfl
  | int _ => obtain ⟨t, rfl⟩ := r; rfl
  | str _ => obtain ⟨t, rfl⟩ := r; rfl
  | byt _ => obtain ⟨t, rfl⟩ := r; rfl
  | flt _ => obtain ⟨t, rfl⟩ := r; rfl
  | ref _ => cases r; rfl
  | ty _ => cases r; rfl
theorem RelV.inj {x y : V} {u : Value} (r : RelV x u) (q : RelV y u) : x = y := Option.some.inj (r.abs.symm.trans q.abs)
theorem Vals.inj : ∀ {xs ys : List V} {us : List Value}, Vals xs us → Vals ys us → xs = ys
  | _, _, _, .nil, .nil => rfl
  | _, _, _, .cons r t, .cons r' t' => by rw [r.inj r', Vals.inj t t']
section
variable {X : Cx} {pins : List (Addr × Obj)} {σ : St} {H : Hp} {s : Shared} {a : Addr} {xs ys : List V}
theorem SqL.of {K : PySem.W.Frag} (h : H a = some (.lst xs)) : SqL K H a xs := .inl (.inl h)
theorem SqT.of {K : PySem.W.Frag} (h : H a = some (.tup xs)) : SqT K H a xs := .inl (.inl h)
theorem Inv.list (I : Inv X pins σ H s) (h : SqL X.K H a xs) : ∃ its : List Value, Vals xs its ∧ PlainL s.heap a its.toArray ∧ xs.length ≤ sizeLine := by
  rcases h with h | ⟨o, its, n, hk, hc, hd, hs, hz, r⟩
  · obtain ⟨z, its, n, r, e⟩ := h.ok I.hok
    exact ⟨its, r, ⟨_, n, e, rfl, rfl, rfl⟩, z⟩
  · refine ⟨its.toList, r, ⟨o, n, I.kIn a o hk, hc, hd, by simpa using hs⟩, ?_⟩
    have e := r.length
    simp only [Array.length_toList] at e
    omega
theorem Inv.tuple (I : Inv X pins σ H s) (h : SqT X.K H a xs) : ∃ its : List Value, Vals xs its ∧ IsTup s.heap a its.toArray ∧ xs.length ≤ sizeLine := by
  rcases h with h | ⟨o, its, n, hk, hc, hs, hz, r⟩
  · obtain ⟨z, its, r, p⟩ := h.ok I.hok
    exact ⟨its, r, p, z⟩
  · refine ⟨its.toList, r, ⟨o, I.kIn a o hk, hc, n, by simpa using hs⟩, ?_⟩
    have e := r.length
    simp only [Array.length_toList] at e
    omega
theorem Inv.list_inj (I : Inv X pins σ H s) (h : SqL X.K H a xs) (h' : SqL X.K H a ys) : xs = ys := by
  obtain ⟨its, r, ⟨o, n, e, _, _, d⟩, _⟩ := I.list h
  obtain ⟨its', r', ⟨o', n', e', _, _, d'⟩, _⟩ := I.list h'
  rw [e] at e'; cases e'
  rw [d] at d'
  injection d' with d1 _
  have : its = its' := by simpa using congrArg Array.toList d1
  subst this
  exact r.inj r'
theorem Inv.tuple_inj (I : Inv X pins σ H s) (h : SqT X.K H a xs) (h' : SqT X.K H a ys) : xs = ys := by
  obtain ⟨its, r, ⟨o, e, _, n, d⟩, _⟩ := I.tuple h
  obtain ⟨its', r', ⟨o', e', _, n', d'⟩, _⟩ := I.tuple h'
  rw [e] at e'; cases e'
  rw [d] at d'
  injection d' with d1 _
  have : its = its' := by simpa using congrArg Array.toList d1
  subst this
  exact r.inj r'
end

/-! ### another wish about exceptions -/
abbrev Cx.wish (X : Cx) (E : Value → Shared → Prop) : Cx := { X with xe := E }
abbrev Cx.nox (X : Cx) : Cx := X.wish fun _ _ => False
theorem Cx.Ok.wish {X : Cx} (ok : X.Ok) (E : Value → Shared → Prop) : (X.wish E).Ok :=
  ⟨ok.mod, ok.kind, ok.glob, ok.blt, ok.above, ok.inj, ok.has, ok.cab, ok.hd, ok.frames, ok.stk, ok.exf, ok.bs, ok.bsz, ok.noex, ok.exfs, ok.funs, ok.frf⟩
theorem Cx.Ok.unwish {X : Cx} {E : Value → Shared → Prop} (ok : (X.wish E).Ok) : X.Ok :=
  ⟨ok.mod, ok.kind, ok.glob, ok.blt, ok.above, ok.inj, ok.has, ok.cab, ok.hd, ok.frames, ok.stk, ok.exf, ok.bs, ok.bsz, ok.noex, ok.exfs, ok.funs, ok.frf⟩
section
variable {X : Cx} {pins : List (Addr × Obj)} {σ : St} {H : Hp} {s : Shared} {E : Value → Shared → Prop}
theorem Inv.wish (I : Inv X pins σ H s) (E : Value → Shared → Prop) : Inv (X.wish E) pins σ H s := ⟨I.ok.wish E, I.os, I.bare, I.base, I.loc, I.cell, I.free, I.freeC, I.pin, I.hok, I.len⟩
theorem Inv.unwish (I : Inv (X.wish E) pins σ H s) : Inv X pins σ H s := ⟨I.ok.unwish, I.os, I.bare, I.base, I.loc, I.cell, I.free, I.freeC, I.pin, I.hok, I.len⟩
theorem SP.unwish {D : Ends} {f : Flow} {s' : Shared} (h : SP (X.wish E) pins D f s') : SP X pins D f s' := by
  cases f with
  | next => obtain ⟨σ', H', I, q⟩ := h; exact ⟨σ', H', I.unwish, q⟩
  | brk => obtain ⟨σ', H', I, q⟩ := h; exact ⟨σ', H', I.unwish, q⟩
  | cont => obtain ⟨σ', H', I, q⟩ := h; exact ⟨σ', H', I.unwish, q⟩
  | ret u => obtain ⟨v, σ', H', I, r, q⟩ := h; exact ⟨v, σ', H', I.unwish, r, q⟩
theorem PSs.nox {st : List Stmt} {t : TS} (h : PSs X.nox st t) : PSs X st t := fun pins s σ H D I hw =>
  wpAny_mono (h pins s σ H D (I.wish _) hw) (fun _ _ q => q.unwish) fun _ _ z => False.elim z
end

/-! ### blocks and small statements -/
section
variable {X : Cx} {st : Stmt} {rest : List Stmt} {t u : TS} {e : Expr} {te : TE} {pos : Pos}
def tNext : TS := fun D σ H => D.nx σ H
def tSeq (t u : TS) : TS := fun D σ H => t { D with nx := u D } σ H
theorem pss_nil : PSs X [] tNext := fun _ _ σ H _ I h => wpAny_execs_nil ⟨σ, H, I, h⟩
theorem pss_cons (h1 : PS X st t) (h2 : PSs X rest u) : PSs X (st :: rest) (tSeq t u) := by
  intro pins s σ H D I h
  refine wpAny_execs_cons (thn (h1 pins s σ H { D with nx := u D } I h) fun f s1 q => ?_)
  cases f with
  | next =>
    obtain ⟨σ', H', I', q⟩ := q
    exact h2 pins s1 σ' H' D I' q
  | ret v => exact q
  | brk => exact q
  | cont => exact q
theorem pss_one (h1 : PS X st t) : PSs X [st] t := by
  intro pins s σ H D I h
  refine wpAny_execs_cons (thn (h1 pins s σ H D I h) fun f s1 q => ?_)
  cases f with
  | next => exact wpAny_execs_nil q
  | ret v => exact q
  | brk => exact q
  | cont => exact q
theorem Inv.quiet {pins : List (Addr × Obj)} {σ : St} {H : Hp} {s : Shared} (I : Inv X pins σ H s) : interactive X.env = false := by simp [interactive, I.ok.kind]
def tDrop (te : TE) : TS := fun D σ H => te σ H fun _ H1 => D.nx σ H1
theorem ps_expr (he : PE X e te) (hs : swapsWith e none pos.line X.env = pure false := by rfl) : PS X (.Expr e pos) (tDrop te) := by
  intro pins s σ H D I h
  exact wpAny_Expr_any (thn (he pins s σ H _ I h) fun v s1 ⟨x, H1, I1, r1, q1⟩ => ⟨σ, H1, I1, q1⟩) I.quiet hs
def tRet (te : TE) : TS := fun D σ H => te σ H D.rt
theorem ps_ret (he : PE X e te) : PS X (.Return (some e) pos) (tRet te) := by
  intro pins s σ H D I h
  exact wpAny_Return_some (thn (he pins s σ H _ I h) fun v s1 ⟨x, H1, I1, r1, q1⟩ => ⟨x, σ, H1, I1, r1, q1⟩)
def tIfS (c : TT) (t u : TS) : TS := fun D σ H => c σ H fun b H1 => if b = true then t D σ H1 else u D σ H1
theorem ps_if {c : Expr} {a b : List Stmt} {tc : TT} (hc : PT X c tc) (ha : PSs X a t) (hb : PSs X b u) : PS X (.If c a b pos) (tIfS tc t u) := by
  intro pins s σ H D I h
  refine wpAny_If (thn (hc pins s σ H _ I h) fun d s1 ⟨H1, I1, q1⟩ => ?_)
  cases d with
  | true => exact ha pins s1 σ H1 D I1 q1
  | false => exact hb pins s1 σ H1 D I1 q1
end

/-! ### targets -/
abbrev TG := V → St → Hp → (St → Hp → Prop) → Prop
abbrev TGs := List V → St → Hp → (St → Hp → Prop) → Prop
def PG (X : Cx) (target : Expr) (t : TG) : Prop :=
  ∀ (pins : List (Addr × Obj)) (s : Shared) (σ : St) (H : Hp) (v : V) (u : Value) (Q : St → Hp → Prop), Inv X pins σ H s → RelV v u → t v σ H Q →
    wpAny (model X.prog X.w) X.A (assign target X.env u) (fun _ s' => ∃ σ' H', Inv X pins σ' H' s' ∧ Q σ' H') X.xe s
def PGs (X : Cx) (ts : List Expr) (t : TGs) : Prop :=
  ∀ (pins : List (Addr × Obj)) (s : Shared) (σ : St) (H : Hp) (vs : List V) (us : List Value) (Q : St → Hp → Prop), Inv X pins σ H s → Vals vs us → t vs σ H Q →
    wpAny (model X.prog X.w) X.A (assignInOrder ((assignEach ts X.env).map (·.2)) us) (fun _ s' => ∃ σ' H', Inv X pins σ' H' s' ∧ Q σ' H') X.xe s
section
variable {X : Cx} {pos : Pos}
def gName (i : Nat) : TG := fun v σ H Q => Q (σ.set i (some v)) H
theorem pg_name {i : Nat} {x : Str} (hN : X.N.Nodup) (hi : X.N[i]? = some x) (hx : Loc X.env.scope x) (hf : X.fn x = true ∨ X.env.scope.names.lookup x = some .local := by first | exact .inl rfl | exact .inr rfl | assumption) : PG X (.Name x pos) (gName i) := by
  intro pins s σ H v u Q I r h
  exact wpAny_assign_Name (store_ok I hN hi hx r (fun s' I' => ⟨_, H, I', h⟩) hf)
def gNil : TGs := fun vs σ H Q => vs = [] ∧ Q σ H
def gCons (t : TG) (u : TGs) : TGs := fun vs σ H Q => ∃ v r, vs = v :: r ∧ t v σ H fun σ' H' => u r σ' H' Q
theorem pgs_nil : PGs X [] gNil := by
  intro pins s σ H vs us Q I r h
  obtain ⟨e, h⟩ := h
  subst e
  cases r
  exact assignInOrder_nil ⟨σ, H, I, h⟩
theorem pgs_cons {e : Expr} {es : List Expr} {t : TG} {u : TGs} (h1 : PG X e t) (h2 : PGs X es u)
    (hs : (assignEach (e :: es) X.env).map (·.2) = assign e X.env :: (assignEach es X.env).map (·.2) := by rfl) : PGs X (e :: es) (gCons t u) := by
  intro pins s σ H vs us Q I r h
  obtain ⟨v, vr, e1, h⟩ := h
  subst e1
  cases r with
  | cons r rr =>
    rw [hs]
    refine assignInOrder_cons (thn (h1 pins s σ H _ _ _ I r h) fun _ s1 ⟨σ1, H1, I1, q1⟩ => ?_)
    exact h2 pins s1 σ1 H1 _ _ Q I1 rr q1
def gTup (K : PySem.W.Frag) (n : Nat) (t : TGs) : TG := fun v σ H Q => ∃ a xs, v = .ref a ∧ SqT K H a xs ∧ xs.length = n ∧ t xs σ H Q
theorem pg_tup {es : List Expr} {k : Nat} {t : TGs} {n : Nat} (hc : X.calm = true) (h : PGs X es t)
    (hn : (assignEach es X.env).length = n := by rfl) (hst : (assignEach es X.env).findIdx? (·.1) = none := by rfl) : PG X (.Tuple es k pos) (gTup X.K n t) := by
  intro pins s σ H v u Q I r hw
  obtain ⟨a, xs, e1, hq, hl, hw⟩ := hw
  subst e1
  cases r
  obtain ⟨its, rv, ht, hz⟩ := I.tuple hq
  refine assign_Tuple_tuple (I.ok.hd hc) ht (by simp [hn, ← hl, rv.length]) hst fun h' hx => ?_
  have I1 : Inv X pins σ H { s with heap := h' } := I.kept (t' := s.toks) fun b o e => hx b o (Nat.ne_of_lt (Heap.lt_size e)) e
  exact h pins _ σ H xs _ Q I1 (by simpa using rv) hw
def tAsg (te : TE) (g : TG) : TS := fun D σ H => te σ H fun x H1 => g x σ H1 D.nx
theorem ps_asg {tg e : Expr} {te : TE} {g : TG} (he : PE X e te) (hg : PG X tg g) (hs : swapsWithSole [tg] e pos.line X.env = pure false := by rfl) (hw : swappedStores [tg] e X.env = pure none := by rfl)
    (h1 : (assignEach [tg] X.env).map (·.2) = [assign tg X.env] := by rfl) : PS X (.Assign [tg] e pos) (tAsg te g) := by
  intro pins s σ H D I h
  refine wpAny_Assign_stores (thn (he pins s σ H _ I h) fun v s1 ⟨x, H1, I1, r1, q1⟩ => ?_) hs hw
  rw [h1]
  exact thn (hg pins s1 σ H1 x v _ I1 r1 q1) fun _ s2 q => q
theorem ps_set {i : Nat} {x : Str} {e : Expr} {te : TE} {pos' : Pos} (hN : X.N.Nodup) (hi : X.N[i]? = some x) (hx : Loc X.env.scope x) (he : PE X e te) (hs : swapsWith e (some (.Name x pos')) pos.line X.env = pure false := by rfl) (hf : X.fn x = true ∨ X.env.scope.names.lookup x = some .local := by first | exact .inl rfl | exact .inr rfl | assumption) :
    PS X (.Assign [.Name x pos'] e pos) (tAsg te (gName i)) := by
  intro pins s σ H D I h
  refine wpAny_Assign_Name (thn (he pins s σ H _ I h) fun v s1 ⟨y, H1, I1, r1, q1⟩ => ?_) hs
  exact store_ok I1 hN hi hx r1 (fun s2 I2 => ⟨_, H1, I2, q1⟩) hf
end

/-! ### while -/
section
variable {X : Cx} {pos : Pos}
end

/-! ### what a loop or a comprehension walks -/
structure It where
  go : Nat → Hp → Prop
  yld : Nat → Hp → V → Hp → Prop
  stop : Nat → Hp → Prop
def FpOk (X : Cx) (pins : List (Addr × Obj)) (H : Hp) (b : Addr) : Prop :=
  H b = none ∧ b ≠ X.env.locals ∧ b ∉ X.fs ∧ (b ∈ X.ex ∨ X.s₀.heap.objs.size ≤ b) ∧ (∀ x c, X.env.cells.lookup x = some c → c ≠ b) ∧ ∀ p ∈ X.pn ++ pins, p.1 ≠ b
theorem Inv.fpOk {X : Cx} {pins : List (Addr × Obj)} {σ : St} {H H' : Hp} {s : Shared} {b : Addr} (I : Inv X pins σ H s) (hb : s.heap.objs.size ≤ b) (hn : H' b = none) : FpOk X pins H' b := by
  refine ⟨hn, Nat.ne_of_gt (Nat.lt_of_lt_of_le I.lt hb), I.nofs hb, .inr (Nat.le_trans I.sz hb), fun x c e z => ?_, fun p hp z => ?_⟩
  · obtain ⟨v, q⟩ := I.cell x c e
    exact absurd (Nat.lt_of_lt_of_le q.lt (by rw [z]; exact hb)) (Nat.lt_irrefl _)
  · exact absurd (Nat.lt_of_lt_of_le (Heap.lt_size (I.pin p hp).1) (by rw [z]; exact hb)) (Nat.lt_irrefl _)
structure Turn (P : Program) (w : World) (K : PySem.W.Frag) (tg : Expr) (J : It) (fp : List Addr) (it : Addr) (tn : Nat → Heap → Prop) : Prop where
  mem : it ∈ fp
  obj : ∀ i h, tn i h → ∀ b ∈ fp, ∃ o, h.get? b = some o ∧ ∀ v, o.data ≠ .cell v
  keep : ∀ i h h', tn i h → (∀ b ∈ fp, ∀ o, h.get? b = some o → h'.get? b = some o) → tn i h'
  item : ∀ (X : Cx), X.prog = P → X.w = w → X.K = K → X.calm = true → ∀ (i : Nat) (pins : List (Addr × Obj)) (s : Shared) (σ : St) (H : Hp) (E : Value → Shared → Prop), Inv X pins σ H s → (∀ b ∈ fp, FpOk X pins H b) → tn i s.heap → J.go i H →
    wpAny (model P w) X.A (pyNext (.ref it)) (fun r s1 => ∃ u, r = some u ∧
      wpAny (model P w) X.A (letOwnedTupleGo tg (.ref it) u) (fun _ s2 => ∃ x H', Inv X pins σ H' s2 ∧ RelV x u ∧ J.yld i H x H' ∧ tn (i + 1) s2.heap ∧ ∀ b ∈ fp, H' b = none) E s1) E s
  done : ∀ (X : Cx), X.prog = P → X.w = w → X.K = K → X.calm = true → ∀ (i : Nat) (pins : List (Addr × Obj)) (s : Shared) (σ : St) (H : Hp) (E : Value → Shared → Prop), Inv X pins σ H s → (∀ b ∈ fp, FpOk X pins H b) → tn i s.heap → J.stop i H →
    wpAny (model P w) X.A (pyNext (.ref it)) (fun r s1 => r = none ∧ Inv X pins σ H s1) E s
  self : ∀ (A : Around) (i : Nat) (s : Shared) (Q : Value → Shared → Prop) (E : Value → Shared → Prop), tn i s.heap → Q (.ref it) s → wpAny (model P w) A (pyIter (.ref it)) Q E s
abbrev TI := St → Hp → (It → Hp → Prop) → Prop
def PIE (X : Cx) (pins : List (Addr × Obj)) (σ : St) (tg : Expr) (R : It → Hp → Prop) (itv : Value) (s2 : Shared) : Prop :=
  ∃ (it : Addr) (fp : List Addr) (tn : Nat → Heap → Prop) (J : It) (H' : Hp), itv = .ref it ∧ Inv X pins σ H' s2 ∧ Turn X.prog X.w X.K tg J fp it tn ∧ tn 0 s2.heap ∧ (∀ b ∈ fp, FpOk X pins H' b) ∧ R J H'
def PI (X : Cx) (tg iter : Expr) (wi : TI) : Prop :=
  ∀ (pins : List (Addr × Obj)) (s : Shared) (σ : St) (H : Hp) (R : It → Hp → Prop), Inv X pins σ H s → wi σ H R →
    wpAny (model X.prog X.w) X.A (eval iter X.env) (fun v s1 => wpAny (model X.prog X.w) X.A (pyIter v) (PIE X pins σ tg R) X.xe s1) X.xe s

theorem go_of {M : Model} {A : Around} {E : Value → Shared → Prop} {s : Shared} {tg : Expr} {it : Addr} {u : Value} {o : Obj} {n : String} {vs : Array Value} {Q : Unit → Shared → Prop} (ho : s.heap.get? it = some o) (hc : o.cls = .type n) (hd : o.data = .fields vs)
    (hn : ["enumerate", "zip", "dict_itemiterator", "dict_reverseitemiterator", "odict_iterator", "itertools.zip_longest", "itertools.pairwise"].contains n = false) (hQ : Q () s) : wpAny M A (letOwnedTupleGo tg (.ref it) u) Q E s := by
  unfold letOwnedTupleGo
  cases tg <;> first
    | exact wpAny_pure hQ
    | (cases u <;> first
        | exact wpAny_pure hQ
        | (refine wpAny_bind (wpAny_load ho ?_)
           rw [hc, hd]
           show wpAny M A (if (["enumerate", "zip", "dict_itemiterator", "dict_reverseitemiterator", "odict_iterator", "itertools.zip_longest", "itertools.pairwise"].contains n && vs[0]? == some (rawInt _)) = true then _ else _) Q E s
           rw [if_neg (by intro h; rw [hn, Bool.false_and] at h; cases h)]
           exact wpAny_pure hQ))

def Itl (K : PySem.W.Frag) (a : Addr) : It :=
  ⟨fun i H => ∃ xs x, SqL K H a xs ∧ xs[i]? = some x, fun i H x H' => H' = H ∧ ∀ xs, SqL K H a xs → xs[i]? = some x, fun i H => ∃ xs, SqL K H a xs ∧ xs.length ≤ i⟩
def Itr (lo : Int) (n : Nat) : It := ⟨fun i _ => i < n, fun i H x H' => H' = H ∧ x = .int (lo + i), fun i _ => n ≤ i⟩
theorem turn_list {P : Program} {w : World} {K : PySem.W.Frag} {tg : Expr} (a it : Addr) : Turn P w K tg (Itl K a) [it] it (fun i h => h.IsListIter it a i) where
  mem := by simp
  obj := fun i h st b hb => by
    have e : b = it := by simpa using hb
    subst e
    obtain ⟨o, e, c, d⟩ := st
    exact ⟨o, e, fun v z => by rw [d] at z; cases z⟩
  keep := fun i h h' st k => st.at fun o e => k it (by simp) o e
  item := by
    intro X hP hw hK hc i pins s σ H E I hf st hg
    subst hP hw hK
    obtain ⟨xs, x, hq, hx⟩ := hg
    obtain ⟨its, rv, p, hz⟩ := I.list hq
    obtain ⟨u, hu, ru⟩ := rv.get hx
    obtain ⟨f0, f1, f2, f3, f4, f5⟩ := hf it (by simp)
    refine wpAny_pyNext_list_item st p.isList (x := u) (by simpa using hu) fun h' st' sb => ?_
    have I1 : Inv X pins σ H { s with heap := h' } := I.turned (t' := s.toks) (fun b o hb e => (sb.2 b hb).trans e) f0 f1 f3 f4 f5
    obtain ⟨o, e, c, d⟩ := id st'
    exact ⟨u, rfl, go_of (s := { s with heap := h' }) e c d (by decide) ⟨x, H, I1, ru, ⟨rfl, fun ys hy => by rw [I.list_inj hy hq]; exact hx⟩, st', fun b hb => (hf b hb).1⟩⟩
  done := by
    intro X hP hw hK hc i pins s σ H E I hf st hg
    subst hP hw hK
    obtain ⟨xs, hq, hx⟩ := hg
    obtain ⟨its, rv, p, hz⟩ := I.list hq
    obtain ⟨f0, f1, f2, f3, f4, f5⟩ := hf it (by simp)
    have hl := rv.length
    exact wpAny_pyNext_list_end (I.ok.hd hc) st p.isList (by simp; omega) fun h' eb => ⟨rfl, I.turned (t' := s.toks) (fun b o hb e => eb b o hb e) f0 f1 f3 f4 f5⟩
  self := fun _ _ _ _ _ st h => wpAny_pyIter_listiter st h
theorem turn_range {P : Program} {w : World} {K : PySem.W.Frag} {tg : Expr} (it : Addr) (lo : Int) (n : Nat) : Turn P w K tg (Itr lo n) [it] it (fun i h => IsRangeIter h it (lo + (i : Nat) * 1) ((n : Int) - (i : Nat)) 1) where
  mem := by simp
  obj := fun i h st b hb => by
    have e : b = it := by simpa using hb
    subst e
    exact ⟨_, st, fun v z => by
      have z' : Data.fields _ = Data.cell v := z
      cases z'⟩
  keep := fun i h h' st k => k it (by simp) _ st
  item := by
    intro X hP hw hK hc i pins s σ H E I hf st hg
    subst hP hw hK
    obtain ⟨f0, f1, f2, f3, f4, f5⟩ := hf it (by simp)
    have W := Walks.range (prog := X.prog) (w := X.w) (I.ok.hd hc) it lo 1 n
    refine W.item i s _ _ hg st fun v h' tk hv st' kk => ?_
    obtain ⟨t, rfl⟩ := hv
    have I1 : Inv X pins σ H { s with heap := h', toks := tk } := I.turned (fun b o hb e => kk b o (by simpa using hb) e) f0 f1 f3 f4 f5
    refine ⟨_, rfl, go_of (s := { s with heap := h', toks := tk }) (n := "range_iterator") st' rfl rfl (by decide) ⟨.int (lo + i), H, I1, ⟨t, ?_⟩, ⟨rfl, rfl⟩, st', fun b hb => (hf b hb).1⟩⟩
    rw [Int.mul_one]
  done := by
    intro X hP hw hK hc i pins s σ H E I hf st hg
    subst hP hw hK
    obtain ⟨f0, f1, f2, f3, f4, f5⟩ := hf it (by simp)
    exact wpAny_pyNext_range_end (I.ok.hd hc) st (by have : n ≤ i := hg; omega) fun h' eb => ⟨rfl, I.turned (t' := s.toks) (fun b o hb e => eb b o hb e) f0 f1 f3 f4 f5⟩
  self := fun _ _ _ _ _ st h => wpAny_pyIter_rangeiter st h
end L2

namespace L2
open PySem PySem.Spec PyProof.Rows
section
variable {X : Cx} {tg : Expr}
def iList (K : PySem.W.Frag) (tl : TE) : TI := fun σ H R => tl σ H fun x H1 => ∃ a, x = .ref a ∧ (∃ xs, SqL K H1 a xs) ∧ R (Itl K a) H1
theorem pi_list {l : Expr} {tl : TE} (hl : PE X l tl) : PI X tg l (iList X.K tl) := by
  intro pins s σ H R I h
  refine thn (hl pins s σ H _ I h) fun v s1 ⟨x, H1, I1, r1, q1⟩ => ?_
  obtain ⟨a, e, ⟨xs, hq⟩, q⟩ := q1
  subst e
  cases r1
  obtain ⟨its, rv, p, hz⟩ := I1.list hq
  refine wpAny_pyIter_list p.isList ?_
  refine ⟨s1.heap.objs.size, [s1.heap.objs.size], _, _, H1, rfl, I1.kept (t' := s1.toks) fun b o e => Heap.get?_push_of_some _ e, turn_list a _, ⟨_, Heap.get?_push_size _ rfl, rfl, rfl⟩, fun b hb => ?_, q⟩
  have e : b = s1.heap.objs.size := by simpa using hb
  subst e
  exact I1.fpOk (Nat.le_refl _) (I1.hok.fresh (Nat.le_refl _))
theorem range_it {pins : List (Addr × Obj)} {σ : St} {H : Hp} {s : Shared} {R : It → Hp → Prop} {E : Value → Shared → Prop} {lo hi : Int} {t u v : Tok} {tk : Nat} (I : Inv X pins σ H s) (h1 : -(2 ^ 62) ≤ lo) (h2 : lo < 2 ^ 62) (h3 : -(2 ^ 62) ≤ hi) (h4 : hi < 2 ^ 62)
    (q : R (Itr lo (hi - lo).toNat) H) : wpAny (model X.prog X.w) X.A (pyIter (.ref s.heap.objs.size)) (PIE X pins σ tg R) E { s with heap := s.heap.push { cls := .type "range", data := .fields #[.int lo t, .int hi u, .int 1 v] }, toks := tk } := by
  refine wpAny_pyIter_range (IsRange.new ..) (small_one h1 h2 h3 h4) ?_
  have I1 : Inv X pins σ H { s with heap := s.heap.push { cls := .type "range", data := .fields #[.int lo t, .int hi u, .int 1 v] }, toks := tk } := I.kept fun b o e => Heap.get?_push_of_some _ e
  refine ⟨(s.heap.push { cls := .type "range", data := .fields #[.int lo t, .int hi u, .int 1 v] }).objs.size, [(s.heap.push { cls := .type "range", data := .fields #[.int lo t, .int hi u, .int 1 v] }).objs.size], _, _, H, rfl,
    I1.kept (t' := tk) fun b o e => Heap.get?_push_of_some _ e, turn_range _ lo (hi - lo).toNat, ?_, fun b hb => ?_, q⟩
  · have e1 : lo + ((0 : Nat) : Int) * 1 = lo := by simp
    have e2 : (((hi - lo).toNat : Nat) : Int) - ((0 : Nat) : Int) = Builtin.Range.rangeSize lo hi 1 := by rw [rangeSize_one]; split <;> omega
    show IsRangeIter _ _ (lo + ((0 : Nat) : Int) * 1) ((((hi - lo).toNat : Nat) : Int) - ((0 : Nat) : Int)) 1
    rw [e1, e2]
    exact Heap.get?_push_size _ rfl
  · have e : b = (s.heap.push { cls := .type "range", data := .fields #[.int lo t, .int hi u, .int 1 v] }).objs.size := by simpa using hb
    subst e
    exact I1.fpOk (Nat.le_refl _) (I1.hok.fresh (Nat.le_refl _))
def iRng1 (ta : TA) : TI := fun σ H R => ta σ H fun vs H1 => ∃ j : Int, vs = [.int j] ∧ -(2 ^ 62) ≤ j ∧ j < 2 ^ 62 ∧ R (Itr 0 j.toNat) H1
def iRng2 (ta : TA) : TI := fun σ H R => ta σ H fun vs H1 => ∃ i j : Int, vs = [.int i, .int j] ∧ (-(2 ^ 62) ≤ i ∧ i < 2 ^ 62 ∧ -(2 ^ 62) ≤ j ∧ j < 2 ^ 62) ∧ R (Itr i (j - i).toNat) H1
theorem pi_range1 {a : Expr} {ta : TA} {p pos : Pos} (hg : Gl X "range") (hm : X.mg "range" = none) (ha : PA X [a] ta) (hs : starEach [a] X.env = [(false, eval a X.env)] := by rfl) : PI X tg (.Call (.Name "range" p) [a] [] pos) (iRng1 ta) := by
  intro pins s σ H R I h
  refine Call_ (ld_blt I hg hm boot_range (PyProof.Rows.callWith_type1 (thn (ha pos pins s σ H _ I h) fun us s1 ⟨vs, H1, I1, r1, q1⟩ => ?_) hs rfl))
  obtain ⟨j, e, q1, q2, q⟩ := q1
  subst e
  cases r1 with
  | cons r rr =>
    cases rr
    obtain ⟨t, rfl⟩ := r
    exact call_range_1 (range_it I1 (by omega) (by omega) q1 q2 (by simpa using q))
theorem pi_range2 {a b : Expr} {ta : TA} {p pos : Pos} (hg : Gl X "range") (hm : X.mg "range" = none) (ha : PA X [a, b] ta) (hs : starEach [a, b] X.env = [(false, eval a X.env), (false, eval b X.env)] := by rfl) (hs2 : starEach [b] X.env = [(false, eval b X.env)] := by rfl) :
    PI X tg (.Call (.Name "range" p) [a, b] [] pos) (iRng2 ta) := by
  intro pins s σ H R I h
  refine Call_ (ld_blt I hg hm boot_range (PyProof.Rows.callWith_type1 (thn (ha pos pins s σ H _ I h) fun us s1 ⟨vs, H1, I1, r1, q1⟩ => ?_) (by rw [hs, hs2]) (by rw [hs2]; rfl)))
  obtain ⟨i, j, e, ⟨q1, q2, q3, q4⟩, q⟩ := q1
  subst e
  cases r1 with
  | cons r rr =>
    cases rr with
    | cons r' rr =>
      cases rr
      obtain ⟨t, rfl⟩ := r
      obtain ⟨t', rfl⟩ := r'
      exact call_range_2 (range_it I1 q1 q2 q3 q4 q)

/-! ### for -/
def tFor (wi : TI) (g : TG) (tb : TS) : TS := fun D σ H => wi σ H fun J H1 => ∃ W : Nat → Nat → St → Hp → Prop, (∃ m, W 0 m σ H1) ∧ ∀ i m σ H, W i m σ H →
  (J.stop i H ∧ D.nx σ H) ∨ (J.go i H ∧ ∃ N : St → Hp → Prop, (∀ σ' H', N σ' H' → ∃ m', m' < m ∧ W (i + 1) m' σ' H') ∧ ∀ x H', J.yld i H x H' → g x σ H' fun σ2 H2 => tb { D with nx := N, ct := N, bk := D.nx } σ2 H2)
def pinsAt (fp : List Addr) (h : Heap) : List (Addr × Obj) := fp.filterMap fun b => (h.get? b).map fun o => (b, o)
theorem mem_pinsAt {fp : List Addr} {h : Heap} {b : Addr} {o : Obj} (hb : b ∈ fp) (e : h.get? b = some o) : (b, o) ∈ pinsAt fp h := List.mem_filterMap.mpr ⟨b, hb, by rw [e]; rfl⟩
theorem of_pinsAt {fp : List Addr} {h : Heap} {p : Addr × Obj} (hp : p ∈ pinsAt fp h) : p.1 ∈ fp ∧ h.get? p.1 = some p.2 := by
  obtain ⟨b, hb, e⟩ := List.mem_filterMap.mp hp
  cases q : h.get? b with
  | none => rw [q] at e; cases e
  | some o =>
    rw [q] at e
    have e' : (b, o) = p := Option.some.inj e
    subst e'
    exact ⟨hb, q⟩
theorem Inv.pinned {pins : List (Addr × Obj)} {σ : St} {H : Hp} {s : Shared} {fp : List Addr} (I : Inv X pins σ H s) (hf : ∀ b ∈ fp, FpOk X pins H b) (ho : ∀ b ∈ fp, ∃ o, s.heap.get? b = some o ∧ ∀ v, o.data ≠ .cell v) : Inv X (pins ++ pinsAt fp s.heap) σ H s :=
  I.pins_of fun p hp => (List.mem_append.mp hp).elim (fun z => I.pin p (List.mem_append_right _ z)) fun z => by
    obtain ⟨hb, e⟩ := of_pinsAt z
    obtain ⟨f0, f1, f2, _⟩ := hf p.1 hb
    obtain ⟨o, e', d⟩ := ho p.1 hb
    rw [e] at e'; cases e'
    exact ⟨e, f0, f1, f2, d⟩
theorem Inv.unpinned {pins pl : List (Addr × Obj)} {σ : St} {H : Hp} {s : Shared} (I : Inv X (pins ++ pl) σ H s) : Inv X pins σ H s := I.pins_of fun p hp => I.pin p (List.mem_append_right _ (List.mem_append_left _ hp))
theorem ps_for {iter : Expr} {body : List Stmt} {wi : TI} {g : TG} {tb : TS} {pos : Pos} (hp : PassesOwn (model X.prog X.w) X.A X.env X.xe) (hc : X.calm = true) (hi : PI X tg iter wi) (hg : PG X tg g) (hb : PSs X body tb)
    (hs : ∀ x, foldedSetIterable iter X.env x = pure x := by intro _; rfl) : PS X (.For tg iter body [] pos) (tFor wi g tb) := by
  intro pins s σ H D I h
  refine wpAny_For (thn (hi pins s σ H _ I h) fun v s1 h1 => thn h1 fun itv s2 h2 => ?_) hs
  obtain ⟨it, fp, tn, J, H2, e, I2, T, st2, f2, W, ⟨m0, w0⟩, turn⟩ := h2
  subst e
  -- what stays true of the iterator's objects through the loop
  have stat : ∀ {H' : Hp}, (∀ b ∈ fp, H' b = none) → ∀ b ∈ fp, FpOk X pins H' b := fun hn b hb => ⟨hn b hb, (f2 b hb).2⟩
  refine codeAny_forLoop_any (fun n s' => ∃ i σ' H', Inv X pins σ' H' s' ∧ tn i s'.heap ∧ (∀ b ∈ fp, H' b = none) ∧ W i n σ' H') ?_ m0 ⟨0, σ, H2, I2, st2, fun b hb => (f2 b hb).1, w0⟩
  rintro n s3 ⟨i, σ3, H3, I3, st3, fr3, w3⟩
  rcases turn i n σ3 H3 w3 with ⟨stop, qn⟩ | ⟨go, N, hN, step⟩
  · refine wpAny_passesOwn hp (thn (T.done X rfl rfl rfl hc i pins s3 σ3 H3 X.xe I3 (stat fr3) st3 stop) fun r s4 ⟨hr, I4⟩ => ?_)
    subst hr
    exact wpAny_execs_nil ⟨σ3, H3, I4, qn⟩
  · refine wpAny_passesOwn hp (thn (T.item X rfl rfl rfl hc i pins s3 σ3 H3 X.xe I3 (stat fr3) st3 go) fun r s4 ⟨u, hr, h4⟩ => ?_)
    subst hr
    refine wpAny_passesOwn hp (thn h4 fun _ s5 ⟨x, H5, I5, r5, y5, st5, fr5⟩ => ?_)
    have I5' := I5.pinned (stat fr5) (T.obj _ _ st5)
    refine wpAny_passesOwn hp (thn (hg _ s5 σ3 H5 x u _ I5' r5 (step x H5 y5)) fun _ s6 ⟨σ6, H6, I6, q6⟩ => ?_)
    refine wpAny_passesOwn hp (thn (hb _ s6 σ6 H6 _ I6 q6) fun f s7 q7 => ?_)
    have again : ∀ {σ7 : St} {H7 : Hp}, Inv X (pins ++ pinsAt fp s5.heap) σ7 H7 s7 → N σ7 H7 → ∃ m, m < n ∧ ∃ i σ' H', Inv X pins σ' H' s7 ∧ tn i s7.heap ∧ (∀ b ∈ fp, H' b = none) ∧ W i m σ' H' := fun {σ7 H7} I7 n7 => by
      obtain ⟨m', hm, w7⟩ := hN σ7 H7 n7
      refine ⟨m', hm, i + 1, σ7, H7, I7.unpinned, T.keep _ _ _ st5 fun b hb o e => (I7.pin (b, o) (List.mem_append_right _ (List.mem_append_right _ (mem_pinsAt hb e)))).1, fun b hb => ?_, w7⟩
      obtain ⟨o, e, d⟩ := T.obj _ _ st5 b hb
      exact (I7.pin (b, o) (List.mem_append_right _ (List.mem_append_right _ (mem_pinsAt hb e)))).2.1
    cases f with
    | next => obtain ⟨σ7, H7, I7, n7⟩ := q7; exact again I7 n7
    | cont => obtain ⟨σ7, H7, I7, n7⟩ := q7; exact again I7 n7
    | brk => obtain ⟨σ7, H7, I7, q7⟩ := q7; exact ⟨σ7, H7, I7.unpinned, q7⟩
    | ret v => obtain ⟨x7, σ7, H7, I7, r7, q7⟩ := q7; exact ⟨x7, σ7, H7, I7.unpinned, r7, q7⟩
end

/-! ### the forms one uses -/
theorem for_list {K : PySem.W.Frag} {a : Addr} {xs : List V} {g : TG} {tb : TS} {D : Ends} {σ : St} {H : Hp} (Pv : Nat → St → Hp → Prop) (h0 : Pv 0 σ H) (hl : ∀ i σ H, i ≤ xs.length → Pv i σ H → SqL K H a xs)
    (hs : ∀ i x σ H, xs[i]? = some x → Pv i σ H → g x σ H fun σ2 H2 => tb { D with nx := Pv (i + 1), ct := Pv (i + 1), bk := D.nx } σ2 H2) (hd : ∀ σ H, Pv xs.length σ H → D.nx σ H) :
    ∃ W : Nat → Nat → St → Hp → Prop, (∃ m, W 0 m σ H) ∧ ∀ i m σ H, W i m σ H →
      ((Itl K a).stop i H ∧ D.nx σ H) ∨ ((Itl K a).go i H ∧ ∃ N : St → Hp → Prop, (∀ σ' H', N σ' H' → ∃ m', m' < m ∧ W (i + 1) m' σ' H') ∧ ∀ x H', (Itl K a).yld i H x H' → g x σ H' fun σ2 H2 => tb { D with nx := N, ct := N, bk := D.nx } σ2 H2) := by
  refine ⟨fun i m σ H => m = xs.length - i ∧ i ≤ xs.length ∧ Pv i σ H, ⟨xs.length, by simp, Nat.zero_le _, h0⟩, ?_⟩
  rintro i m σ H ⟨rfl, hi, p⟩
  have q := hl i σ H hi p
  by_cases hlt : i < xs.length
  · refine .inr ⟨⟨xs, xs[i], q, by simp [hlt]⟩, Pv (i + 1), fun σ' H' p' => ⟨xs.length - (i + 1), by omega, rfl, hlt, p'⟩, fun x H' y => ?_⟩
    obtain ⟨e, y⟩ := y
    subst e
    exact hs i x σ _ (y xs q) p
  · have e : i = xs.length := by omega
    subst e
    exact .inl ⟨⟨xs, q, Nat.le_refl _⟩, hd σ H p⟩
theorem for_range {lo : Int} {n : Nat} {g : TG} {tb : TS} {D : Ends} {σ : St} {H : Hp} (Pv : Nat → St → Hp → Prop) (h0 : Pv 0 σ H)
    (hs : ∀ i σ H, i < n → Pv i σ H → g (.int (lo + i)) σ H fun σ2 H2 => tb { D with nx := Pv (i + 1), ct := Pv (i + 1), bk := D.nx } σ2 H2) (hd : ∀ σ H, Pv n σ H → D.nx σ H) :
    ∃ W : Nat → Nat → St → Hp → Prop, (∃ m, W 0 m σ H) ∧ ∀ i m σ H, W i m σ H →
      ((Itr lo n).stop i H ∧ D.nx σ H) ∨ ((Itr lo n).go i H ∧ ∃ N : St → Hp → Prop, (∀ σ' H', N σ' H' → ∃ m', m' < m ∧ W (i + 1) m' σ' H') ∧ ∀ x H', (Itr lo n).yld i H x H' → g x σ H' fun σ2 H2 => tb { D with nx := N, ct := N, bk := D.nx } σ2 H2) := by
  refine ⟨fun i m σ H => m = n - i ∧ i ≤ n ∧ Pv i σ H, ⟨n, by simp, Nat.zero_le _, h0⟩, ?_⟩
  rintro i m σ H ⟨rfl, hi, p⟩
  by_cases hlt : i < n
  · refine .inr ⟨hlt, Pv (i + 1), fun σ' H' p' => ⟨n - (i + 1), by omega, rfl, hlt, p'⟩, fun x H' y => ?_⟩
    obtain ⟨e, y⟩ := y
    subst e y
    exact hs i σ _ hlt p
  · have e : i = n := by omega
    subst e
    exact .inl ⟨Nat.le_refl _, hd σ H p⟩
end L2

namespace L2
open PySem PySem.Spec PyProof.Rows

abbrev R2 := V → V → Hp → VK → Prop
def OpR (X : Cx) (f : Value → Value → Sem Value) (r : R2) : Prop :=
  ∀ (pins : List (Addr × Obj)) (s : Shared) (σ : St) (H : Hp) (x y : V) (v u : Value) (Q : VK), Inv X pins σ H s → RelV x v → RelV y u → r x y H Q →
    wpAny (model X.prog X.w) X.A (f v u) (EP X pins σ Q) X.xe s
def CallR (X : Cx) (f : Value) (r : List V → Hp → VK → Prop) : Prop :=
  ∀ (pins : List (Addr × Obj)) (s : Shared) (σ : St) (H : Hp) (xs : List V) (us : List Value) (Q : VK), Inv X pins σ H s → Vals xs us → r xs H Q →
    wpAny (model X.prog X.w) X.A (call f us) (EP X pins σ Q) X.xe s
def tOp (r : R2) (ta tb : TE) : TE := fun σ H Q => ta σ H fun x H1 => tb σ H1 fun y H2 => r x y H2 Q
def rI (C : Int → Int → Prop) (g : Int → Int → V) : R2 := fun x y H Q => ∃ i j, x = .int i ∧ y = .int j ∧ C i j ∧ Q (g i j) H
def rI0 (g : Int → Int → V) : R2 := fun x y H Q => ∃ i j, x = .int i ∧ y = .int j ∧ Q (g i j) H
section
variable {X : Cx} {a b c : Expr} {ta tb tc : TE} {pos : Pos}

theorem binT (ha : PE X a ta) (hb : PE X b tb) {pins : List (Addr × Obj)} {s : Shared} {σ : St} {H : Hp} {R : V → V → Hp → Prop} (I : Inv X pins σ H s)
    (h : ta σ H fun x H1 => tb σ H1 fun y H2 => R x y H2) {Q : Value → Shared → Prop} {f : Value → Value → Sem Value}
    (hf : ∀ v u s2 x y H2, Inv X pins σ H2 s2 → RelV x v → RelV y u → R x y H2 → wpAny (model X.prog X.w) X.A (f v u) Q X.xe s2) :
    wpAny (model X.prog X.w) X.A (eval a X.env) (fun v s₁ => wpAny (model X.prog X.w) X.A (eval b X.env) (fun u s₂ => wpAny (model X.prog X.w) X.A (f v u) Q X.xe s₂) X.xe s₁) X.xe s := by
  refine thn (ha pins s σ H _ I h) fun v s1 ⟨x, H1, I1, r1, q1⟩ => ?_
  refine thn (hb pins s1 σ H1 _ I1 q1) fun u s2 ⟨y, H2, I2, r2, q2⟩ => ?_
  exact hf v u s2 x y H2 I2 r1 r2 q2

theorem pe_op {op : Operator} {r : R2} (ho : OpR X (binaryOp op) r) (ha : PE X a ta) (hb : PE X b tb) : PE X (.BinOp a op b pos) (tOp r ta tb) := by
  intro pins s σ H Q I h
  exact wpAny_BinOp (binT ha hb I h fun v u s2 x y H2 I2 rx ry q => ho pins s2 σ H2 x y v u Q I2 rx ry q)
/-! ### ints -/
theorem opI {f : Value → Value → Sem Value} {C : Int → Int → Prop} {g : Int → Int → Int}
    (rule : ∀ (i j : Int) (t u : Tok) (s : Shared) (Q : Value → Shared → Prop) (E : Value → Shared → Prop), C i j → Q (.int (g i j) s.toks) { s with toks := s.toks + 1 } → wpAny (model X.prog X.w) X.A (f (.int i t) (.int j u)) Q E s) :
    OpR X f (rI C fun i j => .int (g i j)) := by
  intro pins s σ H x y v u Q I rx ry h
  obtain ⟨i, j, rfl, rfl, hc, q⟩ := h
  obtain ⟨t, rfl⟩ := rx
  obtain ⟨t', rfl⟩ := ry
  exact rule i j t t' s _ _ hc ⟨.int (g i j), H, I.tok _, ⟨_, rfl⟩, q⟩
theorem opI0 {f : Value → Value → Sem Value} {g : Int → Int → Int}
    (rule : ∀ (i j : Int) (t u : Tok) (s : Shared) (Q : Value → Shared → Prop) (E : Value → Shared → Prop), Q (.int (g i j) s.toks) { s with toks := s.toks + 1 } → wpAny (model X.prog X.w) X.A (f (.int i t) (.int j u)) Q E s) :
    OpR X f (rI0 fun i j => .int (g i j)) := by
  intro pins s σ H x y v u Q I rx ry h
  obtain ⟨i, j, rfl, rfl, q⟩ := h
  obtain ⟨t, rfl⟩ := rx
  obtain ⟨t', rfl⟩ := ry
  exact rule i j t t' s _ _ ⟨.int (g i j), H, I.tok _, ⟨_, rfl⟩, q⟩
theorem opB0 {f : Value → Value → Sem Value} {g : Int → Int → Bool}
    (rule : ∀ (i j : Int) (t u : Tok) (s : Shared) (Q : Value → Shared → Prop) (E : Value → Shared → Prop), Q (.bool (g i j)) s → wpAny (model X.prog X.w) X.A (f (.int i t) (.int j u)) Q E s) :
    OpR X f (rI0 fun i j => .bl (g i j)) := by
  intro pins s σ H x y v u Q I rx ry h
  obtain ⟨i, j, rfl, rfl, q⟩ := h
  obtain ⟨t, rfl⟩ := rx
  obtain ⟨t', rfl⟩ := ry
  exact rule i j t t' s _ _ ⟨.bl (g i j), H, I, rfl, q⟩

def CDiv (i j : Int) : Prop := 0 < j ∧ j < 1073741824
def CMul (i j : Int) : Prop := (-(2 ^ 64) < i ∧ i < 2 ^ 64) ∨ (-(2 ^ 64) < j ∧ j < 2 ^ 64)
theorem CMul.ok {i j : Int} (h : CMul i j) : IntMulOk i j := by
  rcases h with ⟨h1, h2⟩ | ⟨h1, h2⟩
  · exact .of_left (intBits_le_64 h1 h2)
  · exact .of_right (intBits_le_64 h1 h2)
theorem op_add : OpR X (binaryOp .Add) (rI0 fun i j => .int (i + j)) := opI0 fun _ _ _ _ _ _ _ q => add_int q
theorem op_mul : OpR X (binaryOp .Mult) (rI CMul fun i j => .int (i * j)) := opI fun _ _ _ _ _ _ _ hc q => mul_int q hc.ok
theorem op_fdiv : OpR X (binaryOp .FloorDiv) (rI CDiv fun i j => .int (i / j)) := opI fun i j _ _ _ _ _ hc q => by
  have h1 : (0 : Int) < j := hc.1
  have h2 : j < 1073741824 := hc.2
  exact floordiv_int (by omega) (by rw [Int.fdiv_eq_ediv_of_nonneg i (by omega)]; exact q) (.inl (PyProof.noPylong_small (by omega)))
theorem op_mod : OpR X (binaryOp .Mod) (rI (fun _ j => 0 < j) fun i j => .int (i % j)) := opI fun i j _ _ _ _ _ hc q => by
  have h1 : (0 : Int) < j := hc
  exact mod_int' (by omega) (by rw [Int.fmod_eq_emod_of_nonneg i (by omega)]; exact q)
/-! ### bools among ints: n += (a < b) -/
end

/-! ### comparisons -/
def scal : V → V → Bool
  | .non, .non => true | .non, .int _ => true | .int _, .non => true | .non, .bl _ => true | .bl _, .non => true | .non, .str _ => true | .str _, .non => true
  | .int _, .int _ => true | .bl _, .bl _ => true | .str _, .str _ => true | .byt _, .byt _ => true
  | .int _, .str _ => true | .str _, .int _ => true | .bl _, .str _ => true | .str _, .bl _ => true
  | _, _ => false
def rEq : R2 := fun x y H Q => scal x y = true ∧ Q (.bl (decide (x = y))) H
theorem dec_int {i j : Int} : decide (V.int i = V.int j) = (i == j) := by
  rw [Bool.eq_iff_iff]
  simp
theorem dec_bl {i j : Bool} : decide (V.bl i = V.bl j) = (i == j) := by
  rw [Bool.eq_iff_iff]
  simp
theorem dec_str {i j : Str} : decide (V.str i = V.str j) = (i == j) := by
  rw [Bool.eq_iff_iff]
  simp
theorem dec_byt {i j : Array UInt8} : decide (V.byt i = V.byt j) = (i.toList == j.toList) := by
  rw [Bool.eq_iff_iff]
  cases i
  cases j
  simp

section
variable {X : Cx} {a b c : Expr} {ta tb tc : TE} {pos : Pos}
theorem fin_bl {pins : List (Addr × Obj)} {σ : St} {H : Hp} {s : Shared} {Q : VK} {k k' : Bool} (I : Inv X pins σ H s) (q : Q (.bl k) H) (e : k = k') : EP X pins σ Q (.bool k') s := by
  subst e
  exact ⟨.bl k, H, I, rfl, q⟩
theorem op_eq : OpR X (compareOp .Eq) rEq := by
  intro pins s σ H x y v u Q I rx ry h
  obtain ⟨hs, q⟩ := h
  cases x with
  | non =>
    cases rx
    cases y with
    | non => cases ry; exact PySem.EqNone.eq_none_none (fin_bl I q (by simp))
    | bl j => cases ry; exact PySem.EqNone.eq_none_bool (fin_bl I q (by simp))
    | int j => obtain ⟨t', rfl⟩ := ry; exact PySem.EqNone.eq_none_int (fin_bl I q (by simp))
    | str j => obtain ⟨t', rfl⟩ := ry; exact PySem.EqNone.eq_none_str (fin_bl I q (by simp))
    | _ => exact absurd (show false = true from hs) Bool.false_ne_true
  | bl i =>
    cases rx
    cases y with
    | non => cases ry; exact PySem.EqNone.eq_bool_none (fin_bl I q (by simp))
    | bl j => cases ry; exact eq_bool (fin_bl I q dec_bl)
    | str j => obtain ⟨t', rfl⟩ := ry; exact PySem.EqMixed.eq_bool_str (fin_bl I q (by simp))
    | _ => exact absurd (show false = true from hs) Bool.false_ne_true
  | int i =>
    obtain ⟨t, rfl⟩ := rx
    cases y with
    | non => cases ry; exact PySem.EqNone.eq_int_none (fin_bl I q (by simp))
    | int j => obtain ⟨t', rfl⟩ := ry; exact eq_int (fin_bl I q dec_int)
    | str j => obtain ⟨t', rfl⟩ := ry; exact PySem.EqMixed.eq_int_str (fin_bl I q (by simp))
    | _ => exact absurd (show false = true from hs) Bool.false_ne_true
  | str i =>
    obtain ⟨t, rfl⟩ := rx
    cases y with
    | non => cases ry; exact PySem.EqNone.eq_str_none (fin_bl I q (by simp))
    | bl j => cases ry; exact PySem.EqMixed.eq_str_bool (fin_bl I q (by simp))
    | int j => obtain ⟨t', rfl⟩ := ry; exact PySem.EqMixed.eq_str_int (fin_bl I q (by simp))
    | str j => obtain ⟨t', rfl⟩ := ry; exact eq_str (fin_bl I q dec_str)
    | _ => exact absurd (show false = true from hs) Bool.false_ne_true
  | byt i =>
    obtain ⟨t, rfl⟩ := rx
    cases y with
    | byt j => obtain ⟨t', rfl⟩ := ry; exact PySem.W.eq_bytes (fin_bl I q dec_byt)
    | _ => exact absurd (show false = true from hs) Bool.false_ne_true
  | _ => cases y <;> exact absurd (show false = true from hs) Bool.false_ne_true
theorem op_lt : OpR X (compareOp .Lt) (rI0 fun i j => .bl (decide (i < j))) := opB0 fun _ _ _ _ _ _ _ q => lt_int q
theorem op_gt : OpR X (compareOp .Gt) (rI0 fun i j => .bl (decide (j < i))) := opB0 fun _ _ _ _ _ _ _ q => gt_int q
theorem op_isN : OpR X (compareOp .Is) (fun x y H Q => y = .non ∧ Q (.bl (decide (x = .non))) H) := by
  intro pins s σ H x y v u Q I rx ry h
  obtain ⟨rfl, q⟩ := h
  cases ry
  refine is_none_gen (fin_bl I q ?_)
  cases x <;> first
    | (cases rx; rfl)
    | (obtain ⟨t, rfl⟩ := rx; rfl)
theorem op_notN : OpR X (compareOp .IsNot) (fun x y H Q => y = .non ∧ Q (.bl (!decide (x = .non))) H) := by
  intro pins s σ H x y v u Q I rx ry h
  obtain ⟨rfl, q⟩ := h
  cases ry
  refine isnot_none_gen (fin_bl I q ?_)
  cases x <;> first
    | (cases rx; rfl)
    | (obtain ⟨t, rfl⟩ := rx; rfl)

theorem nomark (b : Expr) {op : CmpOp} (h : op ≠ .In := by decide) (h2 : op ≠ .NotIn := by decide) : behindInMarks op b = false := by
  have e1 : (op == CmpOp.In) = false := by cases op <;> first | rfl | exact absurd rfl h
  have e2 : (op == CmpOp.NotIn) = false := by cases op <;> first | rfl | exact absurd rfl h2
  cases b <;> simp [behindInMarks, e1, e2]
theorem pe_cmpR {op : CmpOp} {r : R2} (ho : OpR X (compareOp op) r) (ha : PE X a ta) (hb : PE X b tb) (hm : behindInMarks op b = false) : PE X (.Compare a [op] [b] pos) (tOp r ta tb) := by
  intro pins s σ H Q I h
  exact wpAny_Compare1 (binT ha hb I h fun v u s2 x y H2 I2 rx ry q => ho pins s2 σ H2 x y v u Q I2 rx ry q) hm
def tTest (t : TE) : TT := fun σ H Q => t σ H fun x H' => ∃ k, x = .bl k ∧ Q k H'
theorem pt_cmpR {op : CmpOp} {r : R2} (ho : OpR X (compareOp op) r) (ha : PE X a ta) (hb : PE X b tb) (hm : behindInMarks op b = false) : PT X (.Compare a [op] [b] pos) (tTest (tOp r ta tb)) := by
  intro pins s σ H Q I h
  refine wpAny_isTrue_Compare1 (thn (ha pins s σ H _ I h) fun v s1 ⟨x, H1, I1, r1, q1⟩ => thn (hb pins s1 σ H1 _ I1 q1) fun u s2 ⟨y, H2, I2, r2, q2⟩ =>
    thn (ho pins s2 σ H2 x y v u _ I2 r1 r2 q2) fun c s3 ⟨z, H3, I3, r3, k, e, q3⟩ => ?_) hm
  subst e
  cases r3
  exact wpAny_truthy_bool ⟨H3, I3, q3⟩
/-! ### truth -/
theorem line63 : (sizeLine : Nat) < 2 ^ 63 := by rw [sizeLine_eq]; decide
/-! ### strs and bytes -/
theorem op_add_str : OpR X (binaryOp .Add) (fun x y H Q => ∃ i j, x = .str i ∧ y = .str j ∧ i.length + j.length ≤ sizeLine ∧ Q (.str (i ++ j)) H) := by
  intro pins s σ H x y v u Q I rx ry h
  obtain ⟨i, j, rfl, rfl, hz, q⟩ := h
  obtain ⟨t, rfl⟩ := rx
  obtain ⟨t', rfl⟩ := ry
  exact add_str (fun t' tk => ⟨.str (i ++ j), H, I.tok _, ⟨_, rfl⟩, q⟩) hz
/-! ### scalar builtins, by CallR -/
theorem vals1 {x : V} {us : List Value} (r : Vals [x] us) : ∃ u, us = [u] ∧ RelV x u := by
  cases r with
  | cons r1 r2 => cases r2; exact ⟨_, rfl, r1⟩
theorem vals2 {x y : V} {us : List Value} (r : Vals [x, y] us) : ∃ u w', us = [u, w'] ∧ RelV x u ∧ RelV y w' := by
  cases r with
  | cons r1 r2 =>
    cases r2 with
    | cons r3 r4 => cases r4; exact ⟨_, _, rfl, r1, r3⟩
theorem call_max2 (hc : X.calm = true) : CallR X (.builtin "max") (fun xs H Q => ∃ i j, xs = [.int i, .int j] ∧ Q (.int (if j > i then j else i)) H) := by
  intro pins s σ H xs us Q I r h
  obtain ⟨i, j, rfl, q⟩ := h
  obtain ⟨u, w', rfl, ⟨t, rfl⟩, ⟨t', rfl⟩⟩ := vals2 r
  refine max_two_ints (I.ok.hd hc) fun h' tk k => ⟨_, H, I.kept k, ?_, q⟩
  by_cases hj : j > i
  · rw [if_pos hj, if_pos hj]; exact ⟨_, rfl⟩
  · rw [if_neg hj, if_neg hj]; exact ⟨_, rfl⟩
theorem call_min2 (hc : X.calm = true) : CallR X (.builtin "min") (fun xs H Q => ∃ i j, xs = [.int i, .int j] ∧ Q (.int (if j < i then j else i)) H) := by
  intro pins s σ H xs us Q I r h
  obtain ⟨i, j, rfl, q⟩ := h
  obtain ⟨u, w', rfl, ⟨t, rfl⟩, ⟨t', rfl⟩⟩ := vals2 r
  refine min_two_ints (I.ok.hd hc) fun h' tk k => ⟨_, H, I.kept k, ?_, q⟩
  by_cases hj : j < i
  · rw [if_pos hj, if_pos hj]; exact ⟨_, rfl⟩
  · rw [if_neg hj, if_neg hj]; exact ⟨_, rfl⟩
theorem call_int1 : CallR X (.type "int") (fun xs H Q => (∃ i, xs = [.int i] ∧ Q (.int i) H) ∨ ∃ k, xs = [.bl k] ∧ Q (.int (if k then 1 else 0)) H) := by
  intro pins s σ H xs us Q I r h
  rcases h with ⟨i, rfl, q⟩ | ⟨k, rfl, q⟩
  · obtain ⟨u, rfl, t, rfl⟩ := vals1 r
    exact call_int_int ⟨.int i, H, I, ⟨_, rfl⟩, q⟩
  · obtain ⟨u, rfl, r1⟩ := vals1 r
    cases r1
    exact call_int_bool ⟨.int (if k then 1 else 0), H, I.tok _, ⟨_, rfl⟩, q⟩
end
end L2

namespace L2
open PySem PySem.Spec PyProof.Rows

/-! ### an instance, its attributes a map -/
structure ObjM (h : Heap) (x dx C : Addr) (mA : Str → Option Value) : Prop where
  obj : h.get? x = some (PySem.W.instObj C dx)
  ns : h.Ns1 dx mA
  ne : dx ≠ x

theorem lookIn_ns {h : Heap} {dx : Addr} {mA : Str → Option Value} (n : h.Ns1 dx mA) : ∃ od, h.get? dx = some od ∧ ∀ name, PySem.W.lookIn name od = some (mA name) := by
  obtain ⟨o, es, ep, ho, hd, hk, _, hm⟩ := n
  refine ⟨o, ho, fun name => ?_⟩
  have e := hm name
  unfold nsFind findBy at e
  rw [← Array.find?_toList] at e
  unfold PySem.W.lookIn
  rw [hd]
  dsimp only
  split
  · rename_i y q
    rw [q] at e
    exact congrArg some e
  · rename_i q
    rw [q] at e
    have a : es.toList.any (·.refKey) = false := by
      rw [List.any_eq_false]
      intro y hy
      obtain ⟨z, t, hkey⟩ := hk y (Array.mem_toList_iff.mp hy)
      simp [DictEntry.refKey, hkey]
    have a' : ¬ es.toList.any (·.refKey) = true := by rw [a]; exact Bool.false_ne_true
    rw [if_neg a']
    exact congrArg some e

theorem ObjM.look {h : Heap} {x dx C : Addr} {mA : Str → Option Value} (I : ObjM h x dx C mA) : ∃ od, PySem.W.InstAt h x (PySem.W.instObj C dx) C (some od) ∧ ∀ name, PySem.W.lookIn name od = some (mA name) :=
  let ⟨od, ho, hl⟩ := lookIn_ns I.ns
  ⟨od, ⟨I.obj, rfl, rfl, ho⟩, hl⟩

section
variable {prog : Program} {w : World} {A : Around} {E : Value → Shared → Prop} {s : Shared} {K : PySem.W.Frag} {x dx C f : Addr} {mA : Str → Option Value} {name : Str} {v : Value}

end

/-! ### the attributes as a list of pairs -/
def putF (f : Str) (v : V) : List (Str × V) → List (Str × V)
  | [] => [(f, v)]
  | (g, x) :: r => if g = f then (g, v) :: r else (g, x) :: putF f v r
theorem RelO.some_of {v : V} {o : Option Value} (r : RelO (some v) o) : ∃ u, o = some u ∧ RelV v u := by
  cases o with
  | none => exact (show False from r).elim
  | some u => exact ⟨u, rfl, r⟩
section
variable {P : Program} {w : World} {H H' : Hp} {h h' : Heap} {a C dx : Addr} {fs fs' : List (Str × V)}
theorem ins_get (hok : HOk P w H h) (e : H a = some (.ins C dx fs)) : ∃ mA, ObjM h a dx C mA ∧ (∀ f, RelO (fs.lookup f) (mA f)) ∧ PySem.Within mA (fs.map (·.1)) ∧ fs.length ≤ 1000 ∧ H dx = some (.own a) := by
  obtain ⟨d, z, ne, ob, mA, n, r, q⟩ := (show ObjOk P w H h a (.ins C dx fs) from hok a _ e)
  exact ⟨mA, ⟨ob, n, ne⟩, r, q, z, d⟩
end

/-! ### what of the text a class must have -/
structure Cls (K : PySem.W.Frag) (C : Addr) : Prop where
  pg : PySem.W.plainGet K C Str.empty = true
  hd : PySem.W.hasDictIn K C = true
  po : PySem.W.plainOver K C = true
  sa : PySem.W.findIn K (.ref C) "__setattr__" = some (some (.builtin "object.__setattr__"))
theorem Cls.get {K : PySem.W.Frag} {C : Addr} (c : Cls K C) (f : Str) : PySem.W.plainGet K C f = true := c.pg
section
variable {X : Cx} {pins : List (Addr × Obj)} {σ : St} {H : Hp} {s : Shared} {a C dx : Addr} {fs : List (Str × V)} {f : Str} {v : V} {A : Around} {E : Value → Shared → Prop}

end

/-! ### readings and rules -/
section
variable {X : Cx} {o e value : Expr} {f : Str} {pos pos' tpos : Pos} {ta tv : TE}
end

/-! ### isinstance -/
section
variable {X : Cx} {pins : List (Addr × Obj)} {σ : St} {H : Hp} {s : Shared} {A : Around} {E : Value → Shared → Prop} {Q : Value → Shared → Prop} {c : Value} {b : Bool}
inductive TyOf (K : PySem.W.Frag) (H : Hp) : V → Value → Prop where
  | non : TyOf K H .non (.type "NoneType")
  | bl (x : Bool) : TyOf K H (.bl x) (.type "bool")
  | int (i : Int) : TyOf K H (.int i) (.type "int")
  | str (x : Str) : TyOf K H (.str x) (.type "str")
  | flt (x : UInt64) : TyOf K H (.flt x) (.type "float")
  | lst {a : Addr} {xs : List V} (e : H a = some (.lst xs)) : TyOf K H (.ref a) (.type "list")
  | frz {a : Addr} {o : Obj} {xs : List V} (e : H a = some (.frz o (.lst xs))) : TyOf K H (.ref a) (.type "list")
  | tup {a : Addr} {xs : List V} (e : H a = some (.tup xs)) : TyOf K H (.ref a) (.type "tuple")
  | dK {a : Addr} {kvs : List (Key × V)} (e : H a = some (.dK kvs)) : TyOf K H (.ref a) (.type "dict")
  | dT {a : Addr} {kvs : List (List Key × V)} (e : H a = some (.dT kvs)) : TyOf K H (.ref a) (.type "dict")
  | ins {a C dx : Addr} {fs : List (Str × V)} (e : H a = some (.ins C dx fs)) (cl : Cls K C) (ha : PySem.W.findIn K (.ref C) "__class__" = some (some (.builtin "object.__class__")))
      (hn : PySem.W.specialIn K (.builtin "object.__class__") "__get__" = some (some (.builtin "getset_descriptor.__get__"))) (htk : PySem.W.takesIn K (.builtin "object.__class__") = some true)
      (hm : PySem.W.mroIn K C (.type "object") = some true) : TyOf K H (.ref a) (.ref C)
theorem isinst_ok {x : V} {u t : Value} (I : Inv X pins σ H s) (rx : RelV x u) (ty : TyOf X.K H x t) (e : PySem.W.kitOne X.K t c = some b) (h : ∀ tk, Q (.bool b) { s with toks := tk }) :
    wpAny (model X.prog X.w) A (call (.builtin "isinstance") [u, c]) Q E s := by
  cases ty with
  | non => cases (show u = Value.none from rx); exact PySem.W.kia_one PySem.W.kitx_none I.kIn True.intro e (fun z => nomatch z) h
  | bl y => cases (show u = Value.bool y from rx); exact PySem.W.kia_one PySem.W.kitx_bool I.kIn True.intro e (fun z => nomatch z) h
  | int i => obtain ⟨t, q⟩ := (show ∃ t, u = Value.int i t from rx); cases q; exact PySem.W.kia_one PySem.W.kitx_int I.kIn True.intro e (fun z => nomatch z) h
  | str y => obtain ⟨t, q⟩ := (show ∃ t, u = Value.str y t from rx); cases q; exact PySem.W.kia_one PySem.W.kitx_str I.kIn True.intro e (fun z => nomatch z) h
  | flt y => obtain ⟨t, q⟩ := (show ∃ t, u = Value.float y t from rx); cases q; exact PySem.W.kia_one PySem.W.kitx_float I.kIn True.intro e (fun z => nomatch z) h
  | @lst a xs ea =>
    cases (show u = Value.ref a from rx)
    obtain ⟨_, _, n, _, h1⟩ := (show ObjOk X.prog X.w H s.heap a (.lst xs) from I.hok a _ ea)
    exact PySem.W.kia_one PySem.W.kitx_list I.kIn ⟨_, h1, rfl⟩ e (fun z => nomatch z) h
  | @frz a ob xs ea =>
    cases (show u = Value.ref a from rx)
    obtain ⟨_, _, _, n, _, h1⟩ := (show ObjOk X.prog X.w H s.heap a (.frz ob (.lst xs)) from I.hok a _ ea)
    exact PySem.W.kia_one PySem.W.kitx_list I.kIn ⟨_, h1, rfl⟩ e (fun z => nomatch z) h
  | @tup a xs ea =>
    cases (show u = Value.ref a from rx)
    obtain ⟨_, _, _, p⟩ := (show ObjOk X.prog X.w H s.heap a (.tup xs) from I.hok a _ ea)
    obtain ⟨o, h1, h2, _⟩ := p
    exact PySem.W.kia_one PySem.W.kitx_tuple I.kIn ⟨o, h1, h2⟩ e (fun z => nomatch z) h
  | @dK a kvs ea =>
    cases (show u = Value.ref a from rx)
    obtain ⟨_, _, vs, _, p⟩ := (show ObjOk X.prog X.w H s.heap a (.dK kvs) from I.hok a _ ea)
    obtain ⟨o, es, ep, h1, h2, _⟩ := p
    exact PySem.W.kia_one PySem.W.kitx_dict I.kIn ⟨o, h1, h2.1⟩ e (fun z => nomatch z) h
  | @dT a kvs ea =>
    cases (show u = Value.ref a from rx)
    obtain ⟨_, _, xs, _, o, es, ep, h1, h2, _⟩ := (show ObjOk X.prog X.w H s.heap a (.dT kvs) from I.hok a _ ea)
    exact PySem.W.kia_one PySem.W.kitx_dict I.kIn ⟨o, h1, h2.1⟩ e (fun z => nomatch z) h
  | @ins a C dx fs ea cl ha hn htk hm =>
    cases (show u = Value.ref a from rx)
    obtain ⟨mA, O, _⟩ := ins_get I.hok ea
    obtain ⟨od, J, _⟩ := O.look
    exact PySem.W.kia_one (PySem.W.kitx_own (cl.get _) cl.hd ha hn htk hm) I.kIn J e (fun z => nomatch z) h
end
end L2

namespace L2
open PySem PySem.Spec PyProof.Rows

/-! ### room -/
structure Room (k : Nat) (A : Around) : Prop where
  hd : A.handled = none
  dp : A.depth + 3 * k + 5 < recursionLimit
  un : A.units + 16 * k + 200 < cLine
theorem Room.mono {j k : Nat} {A : Around} (r : Room k A) (h : j ≤ k) : Room j A := ⟨r.hd, by have := r.dp; omega, by have := r.un; omega⟩
theorem Room.deeper {k : Nat} {A : Around} (r : Room (k + 1) A) (env : Env) : Room k (A.deeper env) :=
  ⟨r.hd, by have := r.dp; show A.depth + 1 + 3 * k + 5 < _; omega, by have := r.un; show A.units + 3 + 16 * k + 200 < _; omega⟩
theorem Room.depth {k : Nat} {A : Around} (r : Room k A) : A.depth < recursionLimit := by have := r.dp; omega
theorem Room.units {k : Nat} {A : Around} (r : Room k A) : A.units + 64 < cLine := by have := r.un; omega
/-! ### argument lists and displays -/
def tNil : TA := fun _ H Q => Q [] H
def tCons (ta : TE) (tr : TA) : TA := fun σ H Q => ta σ H fun x H1 => tr σ H1 fun xs H2 => Q (x :: xs) H2
section
variable {X : Cx} {e : Expr} {es : List Expr} {te : TE} {t : TA} {pos : Pos}
theorem pa_nil : PA X [] tNil := fun _ _ _ _ H Q I h => Calls.spliced_nil ⟨[], H, I, .nil, h⟩
theorem pa_cons (ha : PE X e te) (hr : PA X es t) (hs : starEach (e :: es) X.env = (false, eval e X.env) :: starEach es X.env := by rfl) : PA X (e :: es) (tCons te t) := by
  intro pos pins s σ H Q I h
  rw [hs]
  show wpAny _ _ (spliced ((false, eval e X.env) :: backTo pos (starEach es X.env))) _ _ s
  refine Calls.spliced_cons (thn (ha pins s σ H _ I h) fun u s1 ⟨x, H1, I1, r1, q1⟩ => ?_)
  exact thn (hr pos pins s1 σ H1 _ I1 q1) fun us s2 ⟨xs, H2, I2, r2, q2⟩ => ⟨x :: xs, H2, I2, .cons r1 r2, q2⟩

def tTup (t : TA) : TE := fun σ H Q => t σ H fun xs H1 => xs.length ≤ sizeLine ∧ ∀ p, H1 p = none → Q (.ref p) (upd H1 p (.tup xs))
def tLst (t : TA) : TE := fun σ H Q => t σ H fun xs H1 => xs.length ≤ sizeLine ∧ ∀ p, H1 p = none → Q (.ref p) (upd H1 p (.lst xs))
theorem pe_tup {x1} (h : PA X es t) : PE X (.Tuple es x1 pos) (tTup t) := by
  intro pins s σ H Q I hq
  refine wpAny_Tuple_spliced (thn (h pos pins s σ H _ I hq) fun us s1 ⟨xs, H1, I1, r, z, q⟩ => ⟨by rw [← r.length]; exact z, ?_⟩)
  have hf : H1 s1.heap.objs.size = none := I1.hok.fresh (Nat.le_refl _)
  refine ⟨.ref s1.heap.objs.size, upd H1 s1.heap.objs.size (.tup xs), I1.laid (t' := s1.toks) (fun b u e => Heap.get?_push_of_some _ e) (Nat.le_refl _) ?_, rfl, q _ hf⟩
  exact ⟨z, us, r, ⟨_, Heap.get?_push_size _ rfl, rfl, _, rfl⟩⟩
theorem pe_lst (h : PA X es t) : PE X (.List es pos) (tLst t) := by
  intro pins s σ H Q I hq
  refine wpAny_List_spliced (thn (h pos pins s σ H _ I hq) fun us s1 ⟨xs, H1, I1, r, z, q⟩ => ⟨by rw [← r.length]; exact z, ?_⟩)
  have hf : H1 s1.heap.objs.size = none := I1.hok.fresh (Nat.le_refl _)
  refine ⟨.ref s1.heap.objs.size, upd H1 s1.heap.objs.size (.lst xs), I1.laid (t' := s1.toks) (fun b u e => Heap.get?_push_of_some _ e) (Nat.le_refl _) ?_, rfl, q _ hf⟩
  exact ⟨z, us, 0, r, Heap.get?_push_size _ rfl⟩
end

/-! ### what a def promises -/
abbrev Sp := List V → Hp → VK → XK → Prop
abbrev CXT := List Env → Hp → Shared → XK → Value → Shared → Prop

structure Env0 (P : Program) (w : World) (K : PySem.W.Frag) (mg : Str → Option Value) (base : Heap) (A : Around) (outer : List Env) (s : Shared) (H : Hp) : Prop where
  frames : A.frames = some outer
  mod : Mod K mg base
  bs : ∀ b o, base.get? b = some o → s.heap.get? b = some o ∧ H b = none
  bsz : base.objs.size ≤ s.heap.objs.size
  funs : s.heap.FunFrames base outer
  frf : ∀ b ∈ frs outer, H b = none
  hok : HOk P w H s.heap
  bare : AllBare s.gens
def CE (outer : List Env) (P : Program) (w : World) (H : Hp) (s : Shared) (Q : VK) (u : Value) (s' : Shared) : Prop :=
  ∃ v H', s'.os = s.os ∧ AllBare s'.gens ∧ Un (frs outer) [] H H' s.heap s'.heap ∧ HOk P w H' s'.heap ∧ RelV v u ∧ Q v H'
def CR (CX : CXT) (outer : List Env) (P : Program) (w : World) (H : Hp) (s : Shared) (Q : VK) (E : XK) (r : Result) (s' : Shared) : Prop :=
  match r with
  | .ok (.ret u) => CE outer P w H s Q u s'
  | .ok _ => False
  | .error e => CX outer H s E e s'
structure FnOk (P : Program) (w : World) (K : PySem.W.Frag) (mg : Str → Option Value) (base : Heap) (CX : CXT) (k : Nat) (f : Addr) (fd : FuncData) (ps : List Str) (sp : Sp) : Prop where
  len : ∀ vs H Q E, sp vs H Q E → vs.length = ps.length
  run : ∀ (A : Around) (outer : List Env) (s : Shared) (H : Hp) (args : Args) (us : List Value) (vs : List V) (Q : VK) (E : XK), Room k A → Env0 P w K mg base A outer s H → BindsTo s fd args (ps.zip us) → Vals vs us → sp vs H Q E →
    codeAny (model P w) A (.call (.ref f) args) (CR CX outer P w H s Q E) s
section
variable {X : Cx} {pins : List (Addr × Obj)} {σ : St} {H : Hp} {s s' : Shared}
theorem Inv.env0 (I : Inv X pins σ H s) : Env0 X.prog X.w X.K X.mg X.base X.A X.stack s H :=
  ⟨I.ok.frames, I.ok.mod, I.bs, Nat.le_trans I.ok.bsz I.sz, I.stack, I.stkFree, I.hok, I.bare⟩
theorem Inv.after {Q : VK} {u : Value} (I : Inv X pins σ H s) (h : CE X.stack X.prog X.w H s Q u s') : EP X pins σ Q u s' := by
  obtain ⟨v, H', os, bare, un, hok, r, q⟩ := h
  obtain ⟨hh, g, d, t, os'⟩ := s'
  obtain rfl : os' = s.os := os
  exact ⟨v, H', I.call (h' := hh) (g' := g) (d' := d) (t' := t) (ch := []) un hok bare (fun b z => absurd z (by simp)), r, q⟩
end

/-! ### calls -/
def Binds (K : PySem.W.Frag) (fd : FuncData) (ps : List Str) (ds : List Value) : Prop :=
  ∀ (s : Shared) (us : List Value), K.In s.heap → (us ++ ds).length = ps.length → BindsTo s fd ⟨us, []⟩ (ps.zip (us ++ ds))
theorem Binds.all {K : PySem.W.Frag} {fd : FuncData} {ps : List Str} (h : ∀ us : List Value, us.length = ps.length → bindArgs fd ⟨us, []⟩ = pure (ps.zip us)) : Binds K fd ps [] := fun s us _ hl => by
  rw [List.append_nil] at hl ⊢
  exact .of_eq (h us hl)

def Passes (CX : CXT) (X : Cx) (E : XK) : Prop := ∀ (pins : List (Addr × Obj)) (σ : St) (H : Hp) (s : Shared) (e : Value) (s' : Shared), Inv X pins σ H s → CX X.stack H s E e s' → X.xe e s'

section
variable {X : Cx} {CX : CXT} {k : Nat} {f C : Addr} {fd : FuncData} {ps : List Str} {sp : Sp} {dvs : List V} {ds : List Value} {E : XK} {x m : Str} {p pos apos : Pos} {e o : Expr} {es : List Expr} {ta : TE} {t : TA}

theorem run_fn {pins : List (Addr × Obj)} {σ : St} {H : Hp} {s : Shared} {Q : VK} {us : List Value} {vs : List V} (F : FnOk X.prog X.w X.K X.mg X.base CX k f fd ps sp) (hr : Room k X.A) (hb : Binds X.K fd ps ds) (hd : Vals dvs ds) (hx : Passes CX X E)
    (I : Inv X pins σ H s) (r : Vals vs us) (h : sp (vs ++ dvs) H Q E) : wpAny (model X.prog X.w) X.A (call (.ref f) us) (EP X pins σ Q) X.xe s := by
  have r2 : Vals (vs ++ dvs) (us ++ ds) := r.append hd
  have hl : (us ++ ds).length = ps.length := by rw [← r2.length]; exact F.len _ _ _ _ h
  refine wpAny_call (codeAny_mono (F.run X.A X.stack s H ⟨us, []⟩ (us ++ ds) (vs ++ dvs) Q E hr I.env0 (hb s us I.kIn hl) r2 h) fun r s' hq => ?_)
  cases r with
  | error e => exact hx pins σ H s e s' I hq
  | ok fl =>
    cases fl with
    | ret u => exact I.after hq
    | next => exact False.elim hq
    | brk => exact False.elim hq
    | cont => exact False.elim hq

structure Mk (K : PySem.W.Frag) (C f : Addr) : Prop where
  makes : PySem.W.makesIn K C = true
  init : PySem.W.findIn K (.ref C) "__init__" = some (some (.ref f))
  fn : PySem.W.isFn K (.ref f) = true
  kp : PySem.W.keepIn K (.ref C) = true

end

/-! ### keywords -/
section
variable {X : Cx} {CX : CXT} {k : Nat} {f C : Addr} {fd : FuncData} {ps ks : List Str} {sp : Sp} {E : XK} {x m : Str} {p pos apos kpos : Pos} {e o : Expr} {es : List Expr} {kws : List Keyword} {te ta : TE} {t tk : TA} {nm : Option Str}
variable {g : List Value → List Value → List Value} {gV : List V → List V → List V}
end

/-! ### a def's body keeps its promise -/
structure FnScope (N P : List Str) (sc : Scope) : Prop where
  kind : sc.kind = .function
  co : sc.isCoroutine = false
  gen : sc.isGenerator = false
  nd : N.Nodup
  pre : N.take P.length = P
  par : ∀ x ∈ P, sc.names.lookup x = some .local ∨ sc.names.lookup x = some .cell
  nofree : ∀ y ∈ sc.names, y.2 ≠ .free

theorem bindL_out {kindOf : Str → Option NameKind} {x : Str} : ∀ {binds : List (Str × Value)} {m : Str → Option Value}, (∀ v, (x, v) ∉ binds) → bindL kindOf binds m x = m x
  | [], _, _ => rfl
  | (n, v) :: r, m, h => by
    unfold bindL
    rw [bindL_out fun w hw => h w (List.mem_cons_of_mem _ hw)]
    split
    · have : x ≠ n := by rintro rfl; exact h v List.mem_cons_self
      simp [this]
    · rfl
theorem bindC_out {kindOf : Str → Option NameKind} {x : Str} : ∀ {binds : List (Str × Value)} {m : Str → Option Value}, (∀ v, (x, v) ∉ binds) → bindC kindOf binds m x = m x
  | [], _, _ => rfl
  | (n, v) :: r, m, h => by
    unfold bindC
    rw [bindC_out fun w hw => h w (List.mem_cons_of_mem _ hw)]
    split
    · rfl
    · have : x ≠ n := by rintro rfl; exact h v List.mem_cons_self
      simp [this]
theorem bindL_get {kindOf : Str → Option NameKind} {x : Str} {v : Value} : ∀ {P : List Str} {vs : List Value} {i : Nat} {m : Str → Option Value}, P.Nodup → P[i]? = some x → vs[i]? = some v → kindOf x = some .local →
    bindL kindOf (P.zip vs) m x = some v
  | [], _, _, _, _, h, _, _ => by simp at h
  | _ :: _, [], _, _, _, _, h, _ => by simp at h
  | p :: P, w :: vs, 0, m, nd, h1, h2, hk => by
    simp at h1 h2; subst h1; subst h2
    show bindL kindOf ((p, w) :: P.zip vs) m p = _
    unfold bindL
    rw [bindL_out fun v hv => (List.nodup_cons.mp nd).1 (List.of_mem_zip hv).1, if_pos hk]
    simp
  | p :: P, w :: vs, i + 1, m, nd, h1, h2, hk => by
    show bindL kindOf ((p, w) :: P.zip vs) m x = _
    unfold bindL
    exact bindL_get (i := i) (List.nodup_cons.mp nd).2 (by simpa using h1) (by simpa using h2) hk
theorem bindC_get {kindOf : Str → Option NameKind} {x : Str} {v : Value} : ∀ {P : List Str} {vs : List Value} {i : Nat} {m : Str → Option Value}, P.Nodup → P[i]? = some x → vs[i]? = some v → kindOf x ≠ some .local →
    bindC kindOf (P.zip vs) m x = some v
  | [], _, _, _, _, h, _, _ => by simp at h
  | _ :: _, [], _, _, _, _, h, _ => by simp at h
  | p :: P, w :: vs, 0, m, nd, h1, h2, hk => by
    simp at h1 h2; subst h1; subst h2
    show bindC kindOf ((p, w) :: P.zip vs) m p = _
    unfold bindC
    rw [bindC_out fun v hv => (List.nodup_cons.mp nd).1 (List.of_mem_zip hv).1, if_neg hk]
    simp
  | p :: P, w :: vs, i + 1, m, nd, h1, h2, hk => by
    show bindC kindOf ((p, w) :: P.zip vs) m x = _
    unfold bindC
    exact bindC_get (i := i) (List.nodup_cons.mp nd).2 (by simpa using h1) (by simpa using h2) hk

def start (N : List Str) (vs : List V) : St := vs.map some ++ List.replicate (N.length - vs.length) none

def cxOf (CX : CXT) (P : Program) (w : World) (K : PySem.W.Frag) (mg : Str → Option Value) (base : Heap) (N : List Str) (qual : Str) (scope : Scope) (f : Addr) (cd : Value) (A : Around) (outer : List Env) (s : Shared) (H : Hp) (E : XK) : Cx where
  prog := P
  w := w
  K := K
  mg := mg
  base := base
  A := A.deeper (envOfC qual scope s.heap.objs.size f cd)
  N := N
  s₀ := s
  H₀ := H
  env := envOfC qual scope s.heap.objs.size f cd
  outer := outer
  stack := envOfC qual scope s.heap.objs.size f cd :: outer
  ex := []
  calm := true
  fn := fun _ => true
  pn := []
  xe := fun e s' => wpAny (model P w) (A.deeper (envOfC qual scope s.heap.objs.size f cd)) (leaving (envOfC qual scope s.heap.objs.size f cd) e) (fun _ s'' => CX outer H s E e s'') (fun e' s'' => CX outer H s E e' s'') s'

theorem cell_has {sc : Scope} {n : Nat} {x : Str} (h : sc.names.lookup x = some .cell) : ∃ c, (cellsFrom n sc.names []).lookup x = some c := by
  have q := PySem.W.cellsFrom_some sc.names n [] (.inl h)
  exact Option.isSome_iff_exists.mp q

theorem inv_start {CX : CXT} {P : Program} {w : World} {K : PySem.W.Frag} {mg : Str → Option Value} {base : Heap} {N ps : List Str} {qual : Str} {scope : Scope} {f : Addr} {cd : Value} {A : Around} {outer : List Env} {s s1 : Shared} {H : Hp} {E : XK} {us : List Value} {vs : List V}
    (S : FnScope N ps scope) (hd : A.handled = none) (e0 : Env0 P w K mg base A outer s H) (hl : vs.length = ps.length) (r : Vals vs us)
    (x : InCallC s s.heap.objs.size (bindL (envOfC qual scope s.heap.objs.size f cd).kindOf (ps.zip us) fun _ => none) (cellsFrom (s.heap.objs.size + 1) scope.names []) (bindC (envOfC qual scope s.heap.objs.size f cd).kindOf (ps.zip us) fun _ => none) s1) :
    Inv (cxOf CX P w K mg base N qual scope f cd A outer s H E) [] (start N vs) H s1 := by
  have hpl : ps.length ≤ N.length := by have := congrArg List.length S.pre; rw [List.length_take] at this; omega
  obtain ⟨h1, tk, rfl, hk⟩ := x.done
  have noA : ∀ b : Addr, b ∉ (cxOf CX P w K mg base N qual scope f cd A outer s H E).ex := fun b z => absurd (show b ∈ ([] : List Addr) from z) (by simp)
  refine ⟨⟨e0.mod, S.kind, rfl, rfl, Nat.le_refl _, fun y z c h1 h2 => ?_, fun y hy => ?_, fun y c _ h => ?_, fun _ => hd, Around.frames_deeper e0.frames, .inr ⟨rfl, rfl⟩, fun b z => absurd z (noA b), e0.bs, e0.bsz, fun b _ _ => noA b, fun b z => absurd z (noA b), e0.funs, e0.frf⟩,
    rfl, e0.bare, Un.kept hk, ⟨_, x.toInCall.ns, fun i y v h1 h2 h3 => ?_⟩, fun y c h => ⟨_, x.cell y c h⟩, e0.hok.fresh (Nat.le_refl _), fun y c h => ?_, fun p hp => absurd (show p ∈ ([] : List (Addr × Obj)) from hp) (by simp), e0.hok.kept hk, ?_⟩
  · exact name_of_addr x.apart (PySem.mem_of_lookup h1) (PySem.mem_of_lookup h2)
  · have hy : scope.names.lookup y = some .cell ∨ scope.names.lookup y = some .free := hy
    rcases hy with hy | hy
    · exact cell_has hy
    · exact absurd rfl (S.nofree _ (PySem.mem_of_lookup hy))
  · exact Nat.le_of_lt (x.above y c (PySem.mem_of_lookup h))
  · have hi : i < vs.length := by
      unfold start at h2
      by_cases hi : i < vs.length
      · exact hi
      · rw [List.getElem?_append_right (by simpa using hi)] at h2
        rw [List.getElem?_replicate] at h2
        split at h2 <;> cases h2
    have ha : vs[i]? = some v := by
      unfold start at h2
      rw [List.getElem?_append_left (by simpa using hi), List.getElem?_map] at h2
      cases e : vs[i]? with
      | none => rw [e] at h2; cases h2
      | some a => rw [e] at h2; cases h2; rfl
    obtain ⟨u, hu, rv⟩ := r.get ha
    have hp : ps[i]? = some y := by
      rw [← S.pre, List.getElem?_take_of_lt (by omega)]; exact h1
    have ndP : ps.Nodup := by rw [← S.pre]; exact S.nd.sublist (List.take_sublist _ _)
    refine ⟨u, rv, ?_⟩
    rcases S.par y (List.mem_of_getElem? hp) with k | k
    · exact .inl ⟨k, bindL_get ndP hp hu k⟩
    · obtain ⟨c, e⟩ := cell_has (n := s.heap.objs.size + 1) k
      refine .inr ⟨.inl k, c, e, ?_⟩
      have q := x.cell y c e
      rw [bindC_get ndP hp hu (by show scope.names.lookup y ≠ _; rw [k]; decide)] at q
      exact q
  · exact e0.hok.fresh (Nat.le_of_lt (x.above y c (PySem.mem_of_lookup h)))
  · unfold start
    show _ = N.length
    rw [List.length_append, List.length_map, List.length_replicate]
    omega

theorem fn_of {CX : CXT} {P : Program} {w : World} {K : PySem.W.Frag} {mg : Str → Option Value} {base : Heap} {k : Nat} {f : Addr} {name qual : Str} {params : Arguments} {body : List Stmt} {scope : Scope} {dV kV doc pm cdv ct oc : Value} {an od : Option Addr}
    {osl : Array (Option Value)} {N ps : List Str} {sp : Sp} (lk : K.lookup f = some ⟨oc, od, .func (PySem.W.fnOf name qual params body scope dV kV doc pm an cdv ct), osl⟩) (hcd : PySem.W.codeIn K cdv qual = true) (S : FnScope N ps scope)
    (len : ∀ vs H Q E, sp vs H Q E → vs.length = ps.length)
    (hbody : ∀ (A : Around) (outer : List Env) (s : Shared) (H : Hp) (vs : List V) (Q : VK) (E : XK), Room k (A.deeper (envOfC qual scope s.heap.objs.size f cdv)) → sp vs H Q E →
      ∃ t, PSs (cxOf CX P w K mg base N qual scope f cdv A outer s H E) body t ∧ t { nx := fun _ H' => Q .non H', rt := Q } (start N vs) H) :
    FnOk P w K mg base CX (k + 1) f (PySem.W.fnOf name qual params body scope dV kV doc pm an cdv ct) ps sp := by
  refine ⟨len, fun A outer s H args us vs Q E hr e0 hb r hsp => ?_⟩
  have hl := len _ _ _ _ hsp
  have KX : K.In s.heap := e0.mod.kin.keeps fun b o e => (e0.bs b o e).1
  have lim : s.heap.NoLimit := e0.mod.nolimit.keeps fun b o e => (e0.bs b o e).1
  have hkind : ∀ y ∈ ps.zip us, scope.names.lookup y.1 = some .local ∨ (scope.names.lookup y.1 = some .cell ∧ ((cellsFrom (s.heap.objs.size + 1) scope.names []).lookup y.1).isSome = true) := fun ⟨n, v⟩ hy => by
    rcases S.par n (List.of_mem_zip hy).1 with q | q
    · exact .inl q
    · exact .inr ⟨q, PySem.W.cellsFrom_some _ _ _ (.inl q)⟩
  refine codeAny_call_function hr.depth (KX _ _ lk) rfl S.co S.gen rfl (PySem.W.codeRec_of KX hcd) (hb _ _ _ _ ?_)
  refine wpAny_newFunctionEnv_cells S.kind hkind fun env he s1 x => ?_
  subst he
  refine ⟨lim.keeps x.toInCall.keep, codeAny_func ?_⟩
  obtain ⟨t, ht, hq⟩ := hbody A outer s H vs Q E (hr.deeper _) hsp
  have I : Inv (cxOf CX P w K mg base N qual scope f cdv A outer s H E) [] (start N vs) H s1 := inv_start S hr.hd e0 hl r x
  refine wpAny_mono (ht [] s1 (start N vs) H _ I hq) (fun fl s' hs => ?_) fun e s' hs => hs
  have fin : ∀ {σ' : St} {H' : Hp} {v : V} {u : Value}, Inv (cxOf CX P w K mg base N qual scope f cdv A outer s H E) [] σ' H' s' → RelV v u → Q v H' → CE outer P w H s Q u s' :=
    fun {σ' H' v u} J rv q => ⟨v, H', J.os, J.bare, J.base, J.hok, rv, q⟩
  cases fl with
  | ret u =>
    obtain ⟨v, σ', H', J, rv, q⟩ := hs
    exact fin J rv q
  | next =>
    obtain ⟨σ', H', J, q⟩ := hs
    exact fin (v := V.non) (u := Value.none) J rfl q
  | brk =>
    obtain ⟨_, _, _, q⟩ := hs
    exact False.elim q
  | cont =>
    obtain ⟨_, _, _, q⟩ := hs
    exact False.elim q
end L2

namespace L2
open PySem PySem.Spec PyProof.Rows
section
variable {X : Cx} {x : Str} {p pos : Pos} {e : Expr} {es : List Expr} {t : TA} {id T : String} {r : List V → Hp → VK → Prop}

def tCB (r : List V → Hp → VK → Prop) (t : TA) : TE := fun σ H Q => t σ H fun vs H1 => r vs H1 Q
theorem pe_callB (hc : CallR X (.builtin id) r) (hg : Gl X x) (hm : X.mg x = none) (hv : bootBuiltins x = some (.builtin id)) (ha : PA X (e :: es) t) (hn : x ≠ "__name__" := by decide) (hdb : (x == ("__debug__" : Str)) = false := by decide)
    (he : starEach (e :: es) X.env = (false, eval e X.env) :: starEach es X.env := by rfl) (hpl : (backTo pos (starEach es X.env)).any (·.1) = false := by rfl) : PE X (.Call (.Name x p) (e :: es) [] pos) (tCB r t) := by
  intro pins s σ H Q I h
  refine wpAny_Call_Name_kw (ld_blt I hg hm hv ?_ hn hdb)
  exact PyProof.Rows.callWith_builtin1 (thn (ha pos pins s σ H _ I h) fun us s1 ⟨vs, H1, I1, r1, q1⟩ => hc pins s1 σ H1 vs us Q I1 r1 q1) he hpl
theorem pe_callTy (hc : CallR X (.type T) r) (hg : Gl X x) (hm : X.mg x = none) (hv : bootBuiltins x = some (.type T)) (ha : PA X (e :: es) t) (hn : x ≠ "__name__" := by decide) (hdb : (x == ("__debug__" : Str)) = false := by decide)
    (he : starEach (e :: es) X.env = (false, eval e X.env) :: starEach es X.env := by rfl) (hpl : (backTo pos (starEach es X.env)).any (·.1) = false := by rfl) : PE X (.Call (.Name x p) (e :: es) [] pos) (tCB r t) := by
  intro pins s σ H Q I h
  refine wpAny_Call_Name_kw (ld_blt I hg hm hv ?_ hn hdb)
  exact PyProof.Rows.callWith_type1 (thn (ha pos pins s σ H _ I h) fun us s1 ⟨vs, H1, I1, r1, q1⟩ => hc pins s1 σ H1 vs us Q I1 r1 q1) he hpl
end
end L2

namespace HT
open PySem PyProof.Rows

def lexLt : List Int → List Int → Bool
  | [], [] => false
  | [], _ :: _ => true
  | _ :: _, [] => false
  | x :: xs, y :: ys => if x = y then lexLt xs ys else decide (x < y)
section
open PySem.SeqAt
open PySem.AutoSeq1 (wpAny_loadPart')
open PySem.MeetsSeq PySem.MeetsSeq2 PySem.MeetsSeq3

end

section
variable {prog : Program} {w : World} {A : Around} {E : Value → Shared → Prop} {s : Shared}

/-! ### t[a:b], not the whole -/
def sIx (n d : Nat) : Option Int → Nat
  | none => d
  | some v => if v < 0 then (v + (n : Int)).toNat else min v.toNat n
theorem sIx_le (n d : Nat) (hd : d ≤ n) (o : Option Int) : sIx n d o ≤ n := by
  cases o with
  | none => exact hd
  | some v =>
    show (if v < 0 then (v + (n : Int)).toNat else min v.toNat n) ≤ n
    by_cases hv : v < 0
    · rw [if_pos hv]; omega
    · rw [if_neg hv]; exact Nat.min_le_right _ _
theorem clip_eq (v : Int) (n d : Nat) : (if v < 0 then max (v + (n : Int)) 0 else min v (n : Int)) = ((sIx n d (some v) : Nat) : Int) := by
  show (if v < 0 then max (v + (n : Int)) 0 else min v (n : Int)) = (((if v < 0 then (v + (n : Int)).toNat else min v.toNat n) : Nat) : Int)
  by_cases hv : v < 0
  · simp only [if_pos hv]; omega
  · simp only [if_neg hv]; omega
theorem adjust_gen (lo hi : Option Int) (n : Nat) : Builtin.Slice.sliceAdjust lo hi 1 (n : Int) = (((sIx n 0 lo : Nat) : Int), ((sIx n n hi : Nat) : Int)) := by
  have h1 : ¬ ((1 : Int) < 0) := by omega
  unfold Builtin.Slice.sliceAdjust
  simp only [h1, if_false]
  refine Prod.ext ?_ ?_
  · cases lo with
    | none => rfl
    | some v => exact clip_eq v n 0
  · cases hi with
    | none => rfl
    | some v => exact clip_eq v n n
theorem places_gen (i j : Nat) : Builtin.Slice.slicePlaces (i : Int) (j : Int) 1 = j - i := by
  unfold Builtin.Slice.slicePlaces
  have h1 : (1 : Int) > 0 := by omega
  simp only [h1, if_true, Int.ediv_one]
  split <;> omega
theorem slicePart_ {v : Value} {o : Option Int} {Q : Option Int → Shared → Prop} (p : IsPart v o) (h : Q o s) : wpAny (model prog w) A (Builtin.Slice.slicePartIndex v) Q E s := by
  cases p with
  | none => exact slicePart_none h
  | int i t => exact slicePart_int h
theorem sliceApplied_gen {sl : Addr} {vl vu : Value} {lo hi : Option Int} {n : Nat} {Q : Int × Int × Nat → Shared → Prop} (hs : s.heap.IsSliceOf sl vl vu .none) (pl : IsPart vl lo) (pu : IsPart vu hi)
    (h : Q (((sIx n 0 lo : Nat) : Int), 1, sIx n n hi - sIx n 0 lo) s) : wpAny (model prog w) A (Builtin.Slice.sliceApplied (.ref sl) (pure (n : Int))) Q E s := by
  obtain ⟨os, hos, hcs, hds⟩ := id hs
  unfold Builtin.Slice.sliceApplied Builtin.Slice.sliceFields
  refine wpAny_bind (wpAny_bind (wpAny_field hos hds (x := vl) rfl (wpAny_bind (wpAny_field hos hds (x := vu) rfl (wpAny_bind (wpAny_field hos hds (x := .none) rfl (wpAny_pure ?_)))))))
  refine wpAny_bind (slicePart_none ?_)
  show wpAny _ _ (if ((1 : Int) == 0) = true then _ else _) _ _ s
  rw [if_neg (by decide)]
  refine wpAny_bind (slicePart_ pl (wpAny_bind (slicePart_ pu (wpAny_bind (wpAny_pure ?_)))))
  show wpAny _ _ (match Builtin.Slice.sliceAdjust lo hi 1 (n : Int) with | (lo, hi) => pure (lo, (1 : Int), Builtin.Slice.slicePlaces lo hi 1)) _ _ s
  rw [adjust_gen lo hi n]
  show wpAny _ _ (pure (((sIx n 0 lo : Nat) : Int), (1 : Int), Builtin.Slice.slicePlaces ((sIx n 0 lo : Nat) : Int) ((sIx n n hi : Nat) : Int) 1)) _ _ s
  rw [places_gen]
  exact wpAny_pure h
theorem pick_gen (xs : Array Value) (i k : Nat) : ((List.range k).filterMap fun (m : Nat) => xs[((i : Int) + (m : Int) * 1).toNat]?).toArray = ((xs.toList.drop i).take k).toArray := by
  have e : (fun (m : Nat) => xs[((i : Int) + (m : Int) * 1).toNat]?) = fun m => xs[i + m]? := by
    funext m
    have : ((i : Int) + (m : Int) * 1).toNat = i + m := by omega
    rw [this]
  rw [e]
  have := pick_run xs i k
  rw [List.filterMap_map] at this
  have e2 : ((fun x => xs[x]?) ∘ fun x => i + x) = fun m => xs[i + m]? := rfl
  rw [e2] at this
  rw [this]

theorem getItem_tuple_cut {t sl : Addr} {items : Array Value} {vl vu : Value} {lo hi : Option Int} {Q : Value → Shared → Prop} (ht : IsTup s.heap t items) (hs : s.heap.IsSliceOf sl vl vu .none) (pl : IsPart vl lo) (pu : IsPart vu hi)
    (hw : ¬ (sIx items.size 0 lo = 0 ∧ sIx items.size items.size hi = items.size))
    (h : Q (.ref s.heap.objs.size) { s with heap := s.heap.push { cls := .type "tuple", data := .seq ((items.toList.drop (sIx items.size 0 lo)).take (sIx items.size items.size hi - sIx items.size 0 lo)).toArray } })
    (hsz : items.size ≤ sizeLine) : wpAny (model prog w) A (getItem (.ref t) (.ref sl)) Q E s := by
  have htake : sizeOk (.seq ((items.toList.drop (sIx items.size 0 lo)).take (sIx items.size items.size hi - sIx items.size 0 lo)).toArray) := by
    show ((items.toList.drop (sIx items.size 0 lo)).take (sIx items.size items.size hi - sIx items.size 0 lo)).toArray.size ≤ sizeLine
    rw [List.size_toArray, List.length_take, List.length_drop, Array.length_toList]
    omega
  have hj : sIx items.size items.size hi ≤ items.size := sIx_le _ _ (Nat.le_refl _) hi
  obtain ⟨os, hos, hcs, hds⟩ := id hs
  have hTs : s.TypeIs (.ref sl) "slice" := ⟨os, hos, hcs⟩
  unfold getItem
  try with_reducible refine wpAny_holding ?_
  first | refine wpAny_bind (wpAny_pure ?_) | skip
  refine wpAny_bind (wpAny_sequenceKey ht.typeIs (by decide) ?_)
  refine wpAny_bind (wpAny_callSpecial?_slot (name := Str.ofString "__getitem__") ht.typeIs PyProof.Rows.slot_tuple_getitem
    (wpAny_call_entry PyProof.Rows.slot_tuple_getitem ht.typeIs entry_tuple_getitem ?_ (args_tuple_getitem _ _)))
  show wpAny _ _ (Builtin.Tuple.tupleItemsOf (.ref t) >>= _) _ _ s
  refine wpAny_bind (tupleItemsOf_ ht ?_)
  refine wpAny_bind (wpAny_typeOf hTs ?_)
  rw [if_pos (by decide)]
  refine wpAny_bind (sliceApplied_gen hs pl pu ?_)
  have hno : ¬ ((((sIx items.size 0 lo : Nat) : Int) == 0 && (1 : Int) == 1 && (sIx items.size items.size hi - sIx items.size 0 lo) == items.size) = true) := by
    intro q
    rw [Bool.and_eq_true, Bool.and_eq_true] at q
    have q1 : ((sIx items.size 0 lo : Nat) : Int) = 0 := eq_of_beq q.1.1
    have q2 : sIx items.size items.size hi - sIx items.size 0 lo = items.size := eq_of_beq q.2
    exact hw ⟨by omega, by omega⟩
  show wpAny _ _ (if (((sIx items.size 0 lo : Nat) : Int) == 0 && (1 : Int) == 1 && (sIx items.size items.size hi - sIx items.size 0 lo) == items.size) = true then _ else _) _ _ s
  rw [if_neg hno, pick_gen]
  first
    | exact wpAny_bind (m := Builtin.Tuple.tupleExact _) (wpAny_newObj_type (wpAny_pure ⟨_, rfl, wpAny_pure h⟩) htake)
    | exact wpAny_bind (m := Builtin.Tuple.tupleExact _) (wpAny_newObj_type (wpAny_bind (wpAny_pure (wpAny_pure ⟨_, rfl, wpAny_pure h⟩))) htake)
    | exact wpAny_bind (wpAny_bind (m := Builtin.Tuple.tupleExact _) (wpAny_newObj_type (wpAny_pure (wpAny_pure ⟨_, rfl, wpAny_pure h⟩)) htake))
    | exact wpAny_bind (wpAny_bind (m := Builtin.Tuple.tupleExact _) (wpAny_newObj_type (wpAny_pure ⟨_, rfl, wpAny_pure h⟩) htake))
end
end HT

namespace L2
open PySem PySem.Spec PyProof.Rows

/-! ### the parts of a slice -/
abbrev TO := St → Hp → (Option Int → Hp → Prop) → Prop
def PO (X : Cx) (e : Option Expr) (t : TO) : Prop :=
  ∀ (pins : List (Addr × Obj)) (s : Shared) (σ : St) (H : Hp) (Q : Option Int → Hp → Prop), Inv X pins σ H s → t σ H Q →
    wpAny (model X.prog X.w) X.A (evalPart e X.env) (fun u s' => ∃ o H', Inv X pins σ H' s' ∧ IsPart u o ∧ Q o H') X.xe s
def tNoPart : TO := fun _ H Q => Q none H
def tPart (t : TE) : TO := fun σ H Q => t σ H fun x H1 => ∃ i, x = .int i ∧ Q (some i) H1

section
variable {X : Cx} {e : Expr} {te : TE} {lo hi : Option Expr} {tl th : TO} {pos p2 : Pos}

theorem po_none : PO X none tNoPart := by
  intro pins s σ H Q I h
  rw [evalPart_none]
  exact wpAny_pure ⟨none, H, I, .none, h⟩
theorem po_some (h : PE X e te) : PO X (some e) (tPart te) := by
  intro pins s σ H Q I hw
  rw [evalPart_some]
  refine thn (h pins s σ H _ I hw) fun u s1 ⟨x, H1, I1, r1, q1⟩ => ?_
  obtain ⟨i, rfl, q⟩ := q1
  obtain ⟨t, rfl⟩ := r1
  exact ⟨some i, H1, I1, .int i t, q⟩

def SlR (X : Cx) (r : V → Option Int → Option Int → Hp → VK → Prop) : Prop :=
  ∀ (pins : List (Addr × Obj)) (s : Shared) (σ : St) (H : Hp) (x : V) (v vl vu : Value) (lo hi : Option Int) (sl : Addr) (Q : VK), Inv X pins σ H s → RelV x v → s.heap.IsSliceOf sl vl vu .none → IsPart vl lo → IsPart vu hi → r x lo hi H Q →
    ∃ T id, typeLookup (.type T) "__getitem__" = pure (some (.builtin id)) ∧ s.TypeIs v T ∧ wpAny (model X.prog X.w) X.A (getItem v (.ref sl)) (EP X pins σ Q) X.xe s
def tSl (r : V → Option Int → Option Int → Hp → VK → Prop) (te : TE) (tl th : TO) : TE := fun σ H Q => te σ H fun x H1 => tl σ H1 fun l H2 => th σ H2 fun u H3 => r x l u H3 Q
theorem pe_slice {r : V → Option Int → Option Int → Hp → VK → Prop} (hr : SlR X r) (he : PE X e te) (hl : PO X lo tl) (hu : PO X hi th) : PE X (.Subscript e (.Slice lo hi none p2) pos) (tSl r te tl th) := by
  intro pins s σ H Q I h
  refine Subscript_ (thn (he pins s σ H _ I h) fun v s1 ⟨x, H1, I1, r1, q1⟩ => ?_)
  refine wpAny_Slice (thn (hl pins s1 σ H1 _ I1 q1) fun vl s2 ⟨l, H2, I2, pl, q2⟩ => thn (hu pins s2 σ H2 _ I2 q2) fun vu s3 ⟨u, H3, I3, pu, q3⟩ => ?_)
  rw [evalPart_none]
  refine wpAny_pure ?_
  have I4 : Inv X pins σ H3 { s3 with heap := s3.heap.push { cls := .type "slice", data := .fields #[vl, vu, .none] } } := I3.kept (t' := s3.toks) fun b ob q => Heap.get?_push_of_some _ q
  obtain ⟨T, id, hT, ht, hg⟩ := hr pins { s3 with heap := s3.heap.push { cls := .type "slice", data := .fields #[vl, vu, .none] } } σ H3 x v vl vu l u s3.heap.objs.size Q I4 r1 (Heap.IsSliceOf.new ..) pl pu q3
  show wpAny (model X.prog X.w) X.A (subscriptTail e (.Slice lo hi none p2) v (.ref s3.heap.objs.size)) (EP X pins σ Q) X.xe { s3 with heap := s3.heap.push { cls := .type "slice", data := .fields #[vl, vu, .none] } }
  exact tail_any (ops := [.ref s3.heap.objs.size, v]) ht hT hg (by with_unfolding_all rfl)

def cutV (xs : List V) (lo hi : Option Int) : List V := (xs.drop (HT.sIx xs.length 0 lo)).take (HT.sIx xs.length xs.length hi - HT.sIx xs.length 0 lo)
theorem cutV_length (xs : List V) (lo hi : Option Int) : (cutV xs lo hi).length ≤ xs.length := by
  unfold cutV
  rw [List.length_take, List.length_drop]
  omega
def rSlT (K : PySem.W.Frag) : V → Option Int → Option Int → Hp → VK → Prop := fun x lo hi H Q => ∃ a xs, x = .ref a ∧ SqT K H a xs ∧
  ¬ (HT.sIx xs.length 0 lo = 0 ∧ HT.sIx xs.length xs.length hi = xs.length) ∧ ∀ p, H p = none → Q (.ref p) (upd H p (.tup (cutV xs lo hi)))
theorem sl_tup : SlR X (rSlT X.K) := by
  intro pins s σ H x v vl vu lo hi sl Q I rx hs pl pu h
  obtain ⟨a, xs, rfl, hx, hw, q⟩ := h
  cases rx
  obtain ⟨its, r, ht, hz⟩ := I.tuple hx
  have hlen : its.toArray.size = xs.length := by rw [List.size_toArray]; exact r.length.symm
  refine ⟨"tuple", _, PyProof.Rows.slot_tuple_getitem.lookup, ht.typeIs, ?_⟩
  refine HT.getItem_tuple_cut ht hs pl pu (by rw [hlen]; exact hw) ?_ (by rw [hlen]; exact hz)
  rw [hlen]
  refine ⟨.ref s.heap.objs.size, _, I.laid (t' := s.toks) (o := .tup (cutV xs lo hi)) (fun b ob q => Heap.get?_push_of_some _ q) (Nat.le_refl _) ?_, rfl, q _ (I.hok.fresh (Nat.le_refl _))⟩
  exact ⟨Nat.le_trans (cutV_length xs lo hi) hz, _, (r.drop (HT.sIx xs.length 0 lo)).take (HT.sIx xs.length xs.length hi - HT.sIx xs.length 0 lo), IsTup.new _ _⟩

/-! ### t < u, t + u -/
end
end L2

namespace L2
open PySem PySem.Spec PyProof.Rows

/-! ### places -/
def ixN (n : Nat) (i : Int) : Option Nat := if 0 ≤ i then (if i < n then some i.toNat else none) else if -(n : Int) ≤ i then some (i + n).toNat else none
def atI {α : Type} (xs : List α) (i : Int) : Option α := (ixN xs.length i).bind fun j => xs[j]?
theorem ixN_seq {n : Nat} {i : Int} {j : Nat} (h : ixN n i = some j) : seqIndex? i n = some j ∧ j < n ∧ -(n : Int) ≤ i ∧ i < n := by
  unfold ixN at h
  by_cases h0 : 0 ≤ i
  · rw [if_pos h0] at h
    by_cases h1 : i < n
    · rw [if_pos h1] at h
      have e : i.toNat = j := Option.some.inj h
      exact ⟨by rw [seqIndex_of h0 h1, e], by omega, by omega, h1⟩
    · rw [if_neg h1] at h; cases h
  · rw [if_neg h0] at h
    by_cases h1 : -(n : Int) ≤ i
    · rw [if_pos h1] at h
      have e : (i + n).toNat = j := Option.some.inj h
      exact ⟨by rw [seqIndex_neg (by omega) h1, e], by omega, h1, by omega⟩
    · rw [if_neg h1] at h; cases h
theorem atI_get {α : Type} {xs : List α} {i : Int} {v : α} (h : atI xs i = some v) : ∃ j, seqIndex? i xs.length = some j ∧ xs[j]? = some v ∧ j < xs.length ∧ -(xs.length : Int) ≤ i ∧ i < xs.length := by
  unfold atI at h
  cases e : ixN xs.length i with
  | none => rw [e] at h; cases h
  | some j =>
    rw [e] at h
    obtain ⟨h1, h2, h3, h4⟩ := ixN_seq e
    exact ⟨j, h1, h, h2, h3, h4⟩
theorem atI_nat {α : Type} {xs : List α} {j : Nat} {v : α} (h : xs[j]? = some v) : atI xs (j : Int) = some v := by
  have hj : j < xs.length := (List.getElem?_eq_some_iff.mp h).1
  have e : ixN xs.length (j : Int) = some j := by
    unfold ixN
    rw [if_pos (by omega), if_pos (by omega)]; simp
  unfold atI; rw [e]; exact h
/-! ### what may be subscripted -/
def PlainIx (b : Expr) : Prop := ∀ o i, subscripted b false o i = operate [o, i] (getItem o i)
def IxR (X : Cx) (r : R2) : Prop :=
  ∀ (value slice : Expr) (pins : List (Addr × Obj)) (s : Shared) (σ : St) (H : Hp) (x y : V) (v u : Value) (Q : VK), Inv X pins σ H s → RelV x v → RelV y u → r x y H Q →
    subscripted slice false v u = operate [v, u] (getItem v u) → wpAny (model X.prog X.w) X.A (subscriptTail value slice v u) (EP X pins σ Q) X.xe s
def MtR (X : Cx) (id : String) (r : V → List V → Hp → VK → Prop) : Prop :=
  ∀ (pins : List (Addr × Obj)) (s : Shared) (σ : St) (H : Hp) (x : V) (xs : List V) (v : Value) (us : List Value) (Q : VK), Inv X pins σ H s → RelV x v → Vals xs us → r x xs H Q →
    wpAny (model X.prog X.w) X.A (call (.builtin id) (v :: us)) (EP X pins σ Q) X.xe s
section
variable {X : Cx} {a b : Expr} {ta tb : TE} {pos : Pos}
theorem pe_ix {r : R2} (hr : IxR X r) (ha : PE X a ta) (hb : PE X b tb) (hs : PlainIx b) : PE X (.Subscript a b pos) (tOp r ta tb) := by
  intro pins s σ H Q I h
  exact Subscript_ (binT ha hb I h fun v u s2 x y H2 I2 rx ry q => hr a b pins s2 σ H2 x y v u Q I2 rx ry q (hs _ _))

def rIxL (K : PySem.W.Frag) : R2 := fun x y H Q => ∃ p xs i v, x = .ref p ∧ y = .int i ∧ SqL K H p xs ∧ atI xs i = some v ∧ Q v H
def rIxT (K : PySem.W.Frag) : R2 := fun x y H Q => ∃ p xs i v, x = .ref p ∧ y = .int i ∧ SqT K H p xs ∧ atI xs i = some v ∧ Q v H
def rIxS : R2 := fun x y H Q => ∃ z i c, x = .str z ∧ y = .int i ∧ z.length ≤ sizeLine ∧ atI z.cps.toList i = some c ∧ Q (.str ⟨#[c]⟩) H
theorem ix_list : IxR X (rIxL X.K) := by
  intro value slice pins s σ H x y v u Q I rx ry h hs
  obtain ⟨p, xs, i, z, rfl, rfl, hq, he, q⟩ := h
  cases rx
  obtain ⟨t, rfl⟩ := ry
  obtain ⟨its, r, pl, hz⟩ := I.list hq
  obtain ⟨j, h1, h2, h3, h4, h5⟩ := atI_get he
  obtain ⟨w, ew, rw'⟩ := r.get h2
  have hl := r.length
  have hn := line63
  have fin : EP X pins σ Q w s := ⟨z, H, I, rw', q⟩
  by_cases h0 : 0 ≤ i
  · have hj : i.toNat = j := by
      rw [seqIndex_of h0 h5] at h1
      exact Option.some.inj h1
    exact item_listR pl.isList h0 (by omega) (by rw [hj]; simpa using ew) fin hs
  · have hj : (i + (its.toArray.size : Int)).toNat = j := by
      rw [seqIndex_neg (by omega) h4] at h1
      rw [List.size_toArray, ← hl]
      exact Option.some.inj h1
    exact subscriptTail_builtinR (x := w) pl.isList.typeIs slot_list_getitem.lookup
      (wpAny_getItem_list_neg (Q := fun r s' => r = w ∧ EP X pins σ Q r s') pl.isList (by omega) (by rw [List.size_toArray] <;> omega) (by omega) (by rw [hj]; simpa using ew) ⟨rfl, fin⟩) hs
theorem ix_tup : IxR X (rIxT X.K) := by
  intro value slice pins s σ H x y v u Q I rx ry h hs
  obtain ⟨p, xs, i, z, rfl, rfl, hq, he, q⟩ := h
  cases rx
  obtain ⟨t, rfl⟩ := ry
  obtain ⟨its, r, pl, hz⟩ := I.tuple hq
  obtain ⟨j, h1, h2, h3, h4, h5⟩ := atI_get he
  obtain ⟨w, ew, rw'⟩ := r.get h2
  have hl := r.length
  have hn := line63
  have fin : EP X pins σ Q w s := ⟨z, H, I, rw', q⟩
  exact subscriptTail_builtinR (x := w) pl.typeIs slot_tuple_getitem.lookup
    (getItem_tuple (j := j) (Q := fun r s' => r = w ∧ EP X pins σ Q r s') pl (by omega) (by omega) (by rw [List.size_toArray, ← hl]; exact h1) (by simpa using ew) ⟨rfl, fin⟩) hs
theorem ix_str : IxR X rIxS := by
  intro value slice pins s σ H x y v u Q I rx ry h hs
  obtain ⟨z, i, c, rfl, rfl, hz, he, q⟩ := h
  obtain ⟨t, rfl⟩ := rx
  obtain ⟨t', rfl⟩ := ry
  obtain ⟨j, h1, h2, h3, h4, h5⟩ := atI_get he
  have hl : z.cps.toList.length = z.length := by simp [Str.length]
  rw [hl] at h1 h4 h5
  have hn := line63
  exact tail_any (typeIs_str s z t) slot_str_getitem.lookup (getItem_str (c := c) (by
    have e1 : decide (i < -(2 ^ 63 : Int)) = false := decide_eq_false (by omega)
    have e2 : decide (i ≥ 2 ^ 63) = false := decide_eq_false (by omega)
    rw [e1, e2, Bool.or_false]) (by rw [h1]; simpa using h2) ⟨.str ⟨#[c]⟩, H, I.tok _, ⟨_, rfl⟩, q⟩) hs
/-! ### xs[i] = v, any sign -/
/-! ### slices -/
/-! ### in, not in: flat items -/
/-! ### len, list(x), tuple(x) of any list or tuple that is read -/
theorem call_len_seq : CallR X (.builtin "len") (fun xs H Q => ∃ p ys, xs = [.ref p] ∧ (SqL X.K H p ys ∨ SqT X.K H p ys) ∧ Q (.int ys.length) H) := by
  intro pins s σ H xs us Q I r h
  obtain ⟨p, ys, rfl, hq, q⟩ := h
  obtain ⟨u, rfl, rx⟩ := vals1 r
  cases rx
  have hn := line63
  rcases hq with hq | hq
  · obtain ⟨its, r', pl, hz⟩ := I.list hq
    have hlen := r'.length
    exact Calls.call_len_list pl.isList (by simp only [List.size_toArray] <;> omega) ⟨.int ys.length, H, I.tok _, ⟨s.toks + 1, by rw [List.size_toArray, hlen]⟩, q⟩
  · obtain ⟨its, r', pl, hz⟩ := I.tuple hq
    have hlen := r'.length
    exact len_tuple pl (by simp only [List.size_toArray] <;> omega) ⟨.int ys.length, H, I.tok _, ⟨s.toks + 1, by rw [List.size_toArray, hlen]⟩, q⟩
theorem call_len_str : CallR X (.builtin "len") (fun xs H Q => ∃ z, xs = [.str z] ∧ z.length ≤ sizeLine ∧ Q (.int z.length) H) := by
  intro pins s σ H xs us Q I r h
  obtain ⟨z, rfl, hz, q⟩ := h
  obtain ⟨u, rfl, t, rfl⟩ := vals1 r
  have hn := line63
  exact len_str (by omega) ⟨.int z.length, H, I.tok _, ⟨_, rfl⟩, q⟩
theorem CallR.or {f : Value} {r r' : List V → Hp → VK → Prop} (h : CallR X f r) (h' : CallR X f r') : CallR X f (fun xs H Q => r xs H Q ∨ r' xs H Q) := by
  intro pins s σ H xs us Q I rs q
  rcases q with q | q
  · exact h pins s σ H xs us Q I rs q
  · exact h' pins s σ H xs us Q I rs q
theorem call_list_of : CallR X (.type "list") (fun xs H Q => ∃ p ys, xs = [.ref p] ∧ (SqL X.K H p ys ∨ SqT X.K H p ys) ∧ ∀ l, H l = none → Q (.ref l) (upd H l (.lst ys))) := by
  intro pins s σ H xs us Q I r h
  obtain ⟨p, ys, rfl, hq, q⟩ := h
  obtain ⟨u, rfl, rx⟩ := vals1 r
  cases rx
  have fin : ∀ (its : List Value), Vals ys its → ys.length ≤ sizeLine → ∀ (h' : Heap) (c' : Nat), (∀ b o', s.heap.get? b = some o' → h'.get? b = some o') →
      h'.get? s.heap.objs.size = some { cls := .type "list", dict := none, data := .seq its.toArray c', slots := #[] } → EP X pins σ Q (.ref s.heap.objs.size) { s with heap := h' } := fun its r' hz h' c' kp e =>
    ⟨.ref s.heap.objs.size, _, I.laid (t' := s.toks) kp (Nat.le_refl _) (show ObjOk X.prog X.w _ h' _ (.lst ys) from ⟨hz, its, c', r', e⟩), rfl, q _ (I.hok.fresh (Nat.le_refl _))⟩
  rcases hq with hq | hq
  · obtain ⟨its, r', pl, hz⟩ := I.list hq
    have hlen := r'.length
    obtain ⟨o, ho, hc, n, hd⟩ := pl.isList
    exact call_list_seq p (.inl rfl) ho hc hd (fun h' c' kp e => fin its r' hz h' c' kp e) (by simp only [List.size_toArray] <;> omega)
  · obtain ⟨its, r', pl, hz⟩ := I.tuple hq
    have hlen := r'.length
    obtain ⟨o, ho, hc, n, hd⟩ := pl
    exact call_list_seq p (.inr rfl) ho hc hd (fun h' c' kp e => fin its r' hz h' c' kp e) (by simp only [List.size_toArray] <;> omega)
/-! ### the call of a builtin's method: o.m(..) -/
def tyV (K : PySem.W.Frag) (T : String) (x : V) (H : Hp) : Prop := match x with
  | .str _ => T = "str"
  | .int _ => T = "int"
  | .ref p => (T = "list" ∧ ∃ xs, SqL K H p xs) ∨ (T = "tuple" ∧ ∃ o, K.lookup p = some o ∧ o.cls = .type "tuple" ∧ o.dict = none) ∨
      (T = "dict" ∧ ((∃ kvs, H p = some (.dK kvs)) ∨ ∃ kvs, H p = some (.dT kvs))) ∨ (T = "set" ∧ ∃ S n, H p = some (.set S n))
  | _ => False
theorem tyV_is {pins : List (Addr × Obj)} {σ : St} {H : Hp} {s : Shared} {T : String} {x : V} {v : Value} (I : Inv X pins σ H s) (r : RelV x v) (ty : tyV X.K T x H) :
    s.TypeIs v T ∧ ∀ a, v = .ref a → ∃ ob, s.heap.get? a = some ob ∧ ob.dict = none := by
  cases x with
  | str z =>
    obtain ⟨t, rfl⟩ := r
    cases (show T = "str" from ty)
    exact ⟨typeIs_str s z t, fun _ e => nomatch e⟩
  | int i =>
    obtain ⟨t, rfl⟩ := r
    cases (show T = "int" from ty)
    exact ⟨typeIs_int s i t, fun _ e => nomatch e⟩
  | ref p =>
    cases r
    rcases ty with ⟨rfl, xs, hq⟩ | ⟨rfl, o, hk, hc, hd⟩ | ⟨rfl, hk⟩ | ⟨rfl, S, n, hk⟩
    · obtain ⟨its, _, pl, _⟩ := I.list hq
      refine ⟨pl.isList.typeIs, fun a e => ?_⟩
      cases e
      obtain ⟨o, n, e, c, hd, _⟩ := pl
      exact ⟨o, e, hd⟩
    · refine ⟨⟨o, I.kIn p o hk, hc⟩, fun a e => ?_⟩
      cases e
      exact ⟨o, I.kIn _ o hk, hd⟩
    · have z : ∃ o, s.heap.get? p = some o ∧ o.ExactDict := by
        rcases hk with ⟨kvs, hk⟩ | ⟨kvs, hk⟩
        · obtain ⟨_, _, _, _, o, _, _, e, ex, _⟩ := I.hok p _ hk
          exact ⟨o, e, ex⟩
        · obtain ⟨_, _, _, _, o, _, _, e, ex, _⟩ := I.hok p _ hk
          exact ⟨o, e, ex⟩
      obtain ⟨o, e, ex⟩ := z
      refine ⟨⟨o, e, ex.1⟩, fun a e2 => ?_⟩
      cases e2
      exact ⟨o, e, ex.2.1⟩
    · obtain ⟨o, _, _, _, e, ex, _⟩ := I.hok p _ hk
      refine ⟨⟨o, e, ex.1⟩, fun a e2 => ?_⟩
      cases e2
      exact ⟨o, e, ex.2.1⟩
  | _ => exact False.elim ty
def tBM (K : PySem.W.Frag) (T : String) (r : V → List V → Hp → VK → Prop) (to : TE) (t : TA) : TE := fun σ H Q => to σ H fun x H1 => tyV K T x H1 ∧ t σ H1 fun xs H2 => r x xs H2 Q
variable {o e : Expr} {es : List Expr} {to : TE} {t : TA} {name : Str} {apos cpos : Pos} {T id : String} {r : V → List V → Hp → VK → Prop}
theorem pe_bm (pa : PlainAttrs T) (slot : Slot T name id) (hty : typeOf (.builtin id) = pure (.type "method_descriptor")) (hm : MtR X id r) (ho : PE X o to) (ha : PA X (e :: es) t)
    (hbase : attributeBase o name X.env (eval o X.env) = eval o X.env := by rfl)
    (hfew : ((backTo cpos (starEach (e :: es) X.env)).all (fun x => !x.1) && (backToKw cpos (keywordEach [] X.env)).all (fun x => x.1.isSome)
      && decide ((e :: es).length + ([] : List Keyword).length + (if ([] : List Keyword).isEmpty then 0 else 1) < 30)) = true := by rfl)
    (hline : (apos.endLine == cpos.line) = true := by rfl) (hs : starEach (e :: es) X.env = (false, eval e X.env) :: starEach es X.env := by rfl) (hplain : (backTo cpos (starEach es X.env)).any (·.1) = false := by rfl) :
    PE X (.Call (.Attribute o name apos) (e :: es) [] cpos) (tBM X.K T r to t) := by
  intro pins s σ H Q I h
  refine wpAny_Call_method_late hbase hfew hline rfl (thn (ho pins s σ H _ I h) fun v s1 ⟨x, H1, I1, r1, ty, q1⟩ => ?_)
  obtain ⟨h1, h2⟩ := tyV_is I1 r1 ty
  refine ⟨T, id, pa, slot, hty, h1, h2, ?_⟩
  have hA := ha cpos pins s1 σ H1 _ I1 q1
  rw [hs] at hA ⊢
  refine Calls.callWith_builtin (by show (false || (backTo cpos (starEach es X.env)).any (·.1)) = false; rw [hplain] <;> rfl) (Calls.evalArgs_plain ?_)
  exact thn hA fun us s2 ⟨vs, H2, I2, r2, q2⟩ => hm pins s2 σ H2 x vs v us Q I2 r1 r2 q2
/- xs.append(e), list.index on a module's tuple .. are MtR facts of 06m -/
end
end L2

namespace L2
open PySem PySem.Spec PyProof.Rows

def MtM (X : Cx) (id : String) (r : V → List V → Hp → VK → Prop) : Prop :=
  ∀ (pins : List (Addr × Obj)) (s : Shared) (σ : St) (H : Hp) (x : V) (xs : List V) (v : Value) (us : List Value) (Q : VK), Inv X pins σ H s → RelV x v → Vals xs us → r x xs H Q →
    wpAny (model X.prog X.w) X.A (call (.builtin id) (v :: us)) (EP X pins σ Q) X.xe s

/-! ### lists of values -/
theorem Vals.one : ∀ {x : V} {us : List Value}, Vals [x] us → ∃ u, us = [u] ∧ RelV x u
  | _, _, .cons r .nil => ⟨_, rfl, r⟩
theorem Vals.rep {xs : List V} {us : List Value} (h : Vals xs us) : ∀ k : Nat, Vals (List.replicate k xs).flatten (List.replicate k us).flatten
  | 0 => .nil
  | k + 1 => by
    rw [List.replicate_succ, List.replicate_succ, List.flatten_cons, List.flatten_cons]
    exact Vals.append h (Vals.rep h k)
theorem foldl_rep (its : List Value) : ∀ (k : Nat) (acc : List Value),
    List.foldl (fun x1 x2 => x1 ++ x2) acc.toArray (List.replicate k its.toArray) = (acc ++ (List.replicate k its).flatten).toArray
  | 0, acc => by simp
  | k + 1, acc => by
    have e : acc.toArray ++ its.toArray = (acc ++ its).toArray := by simp
    have e2 : (acc ++ its) ++ (List.replicate k its).flatten = acc ++ (List.replicate (k + 1) its).flatten := by
      rw [List.replicate_succ, List.flatten_cons, List.append_assoc]
    rw [← e2, ← foldl_rep its k (acc ++ its), ← e, List.replicate_succ, List.foldl_cons]

section
variable {X : Cx} {pins : List (Addr × Obj)} {σ : St} {H : Hp} {s : Shared} {l b : Addr} {xs ys zs : List V}

/-! ### the two steps: a tracked list is rewritten, a new list is laid -/
theorem Inv.lset {its its' : List Value} {n : Nat} {f : Array Value → Array Value} {t' : Nat} (I : Inv X pins σ H s) (hH : H l = some (.lst xs))
    (e : s.heap.get? l = some { cls := .type "list", data := .seq its.toArray n }) (hf : f its.toArray = its'.toArray) (hv : Vals ys its') (hz : ys.length ≤ sizeLine) :
    Inv X pins σ (upd H l (.lst ys)) { s with heap := s.heap.update l (Obj.mapSeq f), toks := t' } := by
  have q := PySem.IsL.update e f
  rw [hf] at q
  refine I.write (x := l) (e := l) (by rw [hH]; exact trivial) (.inl rfl) (fun b' u hb hu => (Heap.get?_update_other s.heap (Obj.mapSeq f) (Ne.symm hb)).trans hu) ⟨_, q⟩ ?_
  exact ⟨hz, its', _, hv, q⟩
theorem Inv.lnew {its : List Value} {t' : Nat} (I : Inv X pins σ H s) (hv : Vals ys its) (hz : ys.length ≤ sizeLine) :
    Inv X pins σ (upd H s.heap.objs.size (.lst ys)) { s with heap := s.heap.push { cls := .type "list", data := .seq its.toArray }, toks := t' } :=
  I.laid (fun _ _ q => Heap.get?_push_of_some _ q) (Nat.le_refl _) ⟨hz, its, 0, hv, Heap.get?_push_size _ rfl⟩
theorem Inv.fresh (I : Inv X pins σ H s) : H s.heap.objs.size = none := I.hok.fresh (Nat.le_refl _)
theorem Inv.lstM (I : Inv X pins σ H s) (hH : H l = some (.lst xs)) : xs.length ≤ sizeLine ∧ ∃ (its : List Value) (n : Nat), Vals xs its ∧ xs.length = its.length ∧ s.heap.get? l = some { cls := .type "list", data := .seq its.toArray n } := by
  obtain ⟨z, its, n, r, e⟩ := I.hok l _ hH
  exact ⟨z, its, n, r, r.length, e⟩

theorem notLongL {n : Nat} (h : n ≤ sizeLine) : Builtin.List.listTooLong n = false := by
  unfold Builtin.List.listTooLong
  exact decide_eq_false (by omega)
end

section
variable {X : Cx}

/-! ### methods -/
def rAppend : V → List V → Hp → VK → Prop := fun x vs H Q => ∃ l xs y, x = .ref l ∧ vs = [y] ∧ H l = some (.lst xs) ∧ xs.length < sizeLine ∧ Q .non (upd H l (.lst (xs ++ [y])))
theorem mt_append : MtM X "list.append" rAppend := by
  intro pins s σ H x vs v us Q I rx rv h
  obtain ⟨l, xs, y, rfl, rfl, hH, hz, q⟩ := h
  cases rx
  obtain ⟨u, rfl, ru⟩ := rv.one
  obtain ⟨z, its, n, r, hl, e⟩ := I.lstM hH
  refine call_meets F.slot_list_append ⟨_, e, rfl⟩ F.entry_list_append (F.args_list_append_2 _ _) (PySem.list_append l its.toArray n u (by rw [List.size_toArray]; omega)) ⟨e, ?_⟩
  refine ⟨.non, _, I.lset (its' := its ++ [u]) hH e (by simp) (r.append (.cons ru .nil)) ?_, rfl, q⟩
  rw [List.length_append, List.length_singleton]
  omega

/-! ### list + list, list += list, list * int -/
def rCat : R2 := fun x y H Q => ∃ l b xs zs, x = .ref l ∧ y = .ref b ∧ H l = some (.lst xs) ∧ H b = some (.lst zs) ∧ xs.length + zs.length ≤ sizeLine ∧ ∀ p, H p = none → Q (.ref p) (upd H p (.lst (xs ++ zs)))
theorem op_cat : OpR X (binaryOp .Add) rCat := by
  intro pins s σ H x y v u Q I rx ry h
  obtain ⟨l, b, xs, zs, rfl, rfl, hH, hB, hz, q⟩ := h
  cases rx
  cases ry
  obtain ⟨z, its, n, r, hl, e⟩ := I.lstM hH
  obtain ⟨z2, its2, n2, r2, hl2, e2⟩ := I.lstM hB
  refine PySem.P.add_list e e2 ?_ (by rw [List.size_toArray, List.size_toArray]; omega)
  have ea : its.toArray ++ its2.toArray = (its ++ its2).toArray := by simp
  rw [ea]
  exact ⟨.ref _, _, I.lnew (t' := s.toks) (r.append r2) (by rw [List.length_append]; omega), rfl, q _ I.fresh⟩
def rRep : R2 := fun x y H Q => ∃ l k xs, x = .ref l ∧ y = .int k ∧ H l = some (.lst xs) ∧ -(2 ^ 63) ≤ k ∧ k < 2 ^ 63 ∧ xs.length * k.toNat ≤ sizeLine ∧
  ∀ p, H p = none → Q (.ref p) (upd H p (.lst (List.replicate k.toNat xs).flatten))
theorem len_rep {α : Type} (xs : List α) (k : Nat) : (List.replicate k xs).flatten.length = k * xs.length := by
  induction k with
  | zero => simp
  | succ k ih => rw [List.replicate_succ, List.flatten_cons, List.length_append, ih, Nat.succ_mul, Nat.add_comm]
theorem op_rep : OpR X (binaryOp .Mult) rRep := by
  intro pins s σ H x y v u Q I rx ry h
  obtain ⟨l, k, xs, rfl, rfl, hH, h1, h2, hz, q⟩ := h
  cases rx
  obtain ⟨t, rfl⟩ := ry
  obtain ⟨z, its, n, r, hl, e⟩ := I.lstM hH
  have hlen : its.toArray.size * k.toNat ≤ sizeLine := by rw [List.size_toArray, ← hl]; exact hz
  have hcap : ¬ its.toArray.size * k.toNat > (2 ^ 63 - 1) / 8 := by
    have : (sizeLine : Nat) ≤ (2 ^ 63 - 1) / 8 := by decide
    omega
  have hfit : ¬ (!Builtin.List.listFitsIndex k) = true := by
    rw [fitsIndex_both h1 h2]
    exact Bool.false_ne_true
  have hlong : ¬ Builtin.List.listTooLong (its.toArray.size * k.toNat) = true := by
    rw [notLongL hlen]
    exact Bool.false_ne_true
  have hnew : List.foldl (fun x1 x2 => x1 ++ x2) #[] (List.replicate (if its.toArray.isEmpty = true then 0 else k.toNat) its.toArray) = (List.replicate k.toNat its).flatten.toArray := by
    have f0 : ∀ m : Nat, List.foldl (fun x1 x2 => x1 ++ x2) #[] (List.replicate m its.toArray) = (List.replicate m its).flatten.toArray := fun m => by
      have := foldl_rep its m []
      rw [List.nil_append] at this
      exact this
    rw [f0]
    cases its with
    | nil => simp
    | cons a r' => rw [if_neg (by simp)]
  refine wpAny_binaryOp_repeat_ref (T := "list") (U := "int") (by decide) ⟨_, e, rfl⟩ (fun s' => typeIs_int s' k t) noFill_list_mul F.fills_int_mul F.slot_int_rmul repeat_list F.slot_int_index.lookup
    (call_meets F.slot_int_rmul (typeIs_int s k t) F.entry_int_rmul (F.args_int_rmul_2 _ _) (int___rmul___int_list k t l its.toArray n)
      ⟨e, rfl, ⟨_, e, rfl⟩, call_meets F.slot_list_mul ⟨_, e, rfl⟩ F.entry_list_mul (F.args_list_mul_2 _ _) (AutoListH.list___mul___list_int_3 l its.toArray n k t hfit hcap hlong) ⟨e, ?_⟩⟩)
  rw [hnew]
  exact ⟨.ref _, _, I.lnew (t' := s.toks) (r.rep k.toNat) (by rw [len_rep, Nat.mul_comm]; exact hz), rfl, q _ I.fresh⟩

/-! ### del xs[i] -/
end

/-! ### xs[a:b] = ys -/
section
variable {prog : Program} {w : World} {A : Around} {E : Value → Shared → Prop} {s : Shared}
end

section
variable {X : Cx}
end
end L2

namespace Att
open PySem PySem.W PySem.Calls PyProof.Rows

/-! ### the script -/
theorem ints_of_wellAll {P : Params} {h : Heap} : ∀ (ns : List Int) (vs : List Value), WellAll P h vs (ns.map WData.int) → IntsAre vs ns := by
  intro ns
  induction ns with
  | nil =>
    intro vs w
    rw [List.map_nil] at w
    cases w
    exact .nil
  | cons n ns ih =>
    intro vs w
    rw [List.map_cons] at w
    cases w with
    | cons a b =>
      cases a
      exact .cons _ _ (ih _ b)

theorem script_of {l : OpenLaw} {n : Nat} (hn : l.most = some n) {P : Params} {h : Heap} {args : List WData} {vals : List Value}
    (hpre : l.row.toRowW.claim.pre args = true) (hwl : WellAll P h vals args) :
    ∃ a vs ns, vals = [Value.ref a] ∧ args = [WData.list (ns.map WData.int)] ∧ h.get? a = some { cls := .type "list", data := .seq vs.toArray } ∧ IntsAre vs ns ∧ ns.length ≤ n := by
  have hsh : WShape.hasAll [] args [.list .int] = true := (pre_splitW hpre).1
  have hc : l.pre.holds [] { args := args } = true := (pre_splitW hpre).2
  obtain ⟨d, r, rfl, h1, h2⟩ := hasAllW_cons hsh
  obtain rfl := hasAllW_nil h2
  obtain ⟨xs, rfl, h3⟩ := hasW_list h1
  obtain ⟨ns, rfl⟩ := items_int h3
  have hlen : ns.length ≤ n := by
    unfold OpenLaw.pre at hc
    have h4 : (WTm.not (.lt (.lit (.int (n : Int))) (.len (.arg 0)))).holds [] { args := [.list (ns.map .int)] } = true := by
      have h4 := (holds_andW hc).1
      rw [hn] at h4
      exact h4
    have h5 := condW_of h4 (w_not (w_lt w_lit (w_len_list (w_arg rfl))))
    rw [List.length_map] at h5
    refine Nat.le_of_not_lt fun q => ?_
    have q' : (n : Int) < ((ns.length : Nat) : Int) := by omega
    first
      | (rw [decide_eq_true q'] at h5; exact absurd h5 (by decide))
      | (simp at h5; omega)
  cases hwl with
  | cons w1 w2 =>
    cases w2
    cases w1 with
    | list ho hall => exact ⟨_, _, ns, rfl, rfl, ho, ints_of_wellAll ns _ hall, hlen⟩

theorem post_true (l : OpenLaw) (args : List WData) : l.row.toRowW.claim.post args (.bool true) args = true :=
  postW_of (r := l.row.toRowW) (X := (true == true))
    (show WShape.has [] (.bool true) .bool = true by first | rfl | decide | simp [WShape.has, WShape.arms, WShape.armsAll])
    (show (WTm.eq .res (.lit (.bool true))).value [] { args := args, res := some (.bool true), after := args } = some (.bool (true == true)) from w_eq_bool (w_res rfl) w_lit) rfl

/-! ### the attachment: holds_open's last premise (the goal 'hc' behind k_head) from a wpAny of the law's body -/
theorem attach_call {l : OpenLaw} {n : Nat} {q : Program} {loose : List Str} {XP : (Str → Option Value) → Heap → Prop} {YP : World → Heap → Prop} {d : DefRec}
    (hn : l.most = some n) (hdf : d.params.defaults = [])
    (call : ∀ (w : World) (s₀ s₁ : Shared) (mg mb : Str → Option Value) (fa : Addr) (o : Obj) (pm cd doc : Value) (a : Addr) (vs : List Value) (ns : List Int),
      Ground q loose [] XP w s₀ mg mb s₁.heap → YP w s₁.heap →
      s₁.heap.get? fa = some o → o.data = .func (docDef d.name d.params d.body d.scope pm cd doc) → s₁.heap.CodeRec cd d.name → mg d.name = some (.ref fa) →
      s₁.heap.get? a = some { cls := .type "list", data := .seq vs.toArray } → IntsAre vs ns → ns.length ≤ n → s₁.gens = #[] →
      codeAny (model l.prog w) callerA (.call (.ref fa) ⟨[.ref a], []⟩) (fun r s' => r = .ok (.ret (.bool true)) ∧ OldK s₁.heap s'.heap ∧ s'.os = s₁.os ∧ AllBare s'.gens) s₁) :
    WalkO q loose XP YP l.row.toRowW d [] (fun f vs => PySem.call f vs) := by
  intro w s₀ s₁ mg mb G Y fa o pm cd doc dV kV ho hd hcd hD hmg hg args vals as hpre hlay hrd hwl hlo
  obtain rfl : dV = .none := Dflts.none hD hdf
  obtain rfl : kV = .none := Dflts.noKw hD
  obtain ⟨a, vs, ns, rfl, rfl, hobj, hints, hlen⟩ := script_of hn hpre hwl
  refine enter_call (codeAny_mono (call w s₀ s₁ mg mb fa o pm cd doc a vs ns G Y ho (fd_plain hd) hcd hmg hobj hints hlen hg) fun r s' hq => ?_)
  obtain ⟨rfl, h2, h3, h4⟩ := hq
  exact ⟨.inl ⟨.bool true, .bool true, [], rfl, fun _ => rfl, .bool true, post_true l _, fun _ => ⟨List.Pairwise.nil, fun _ hm => (nomatch hm)⟩⟩, h2, h3, h4⟩

/-! ### rules over ANY heap (no ledger) from facts about the written part K: the library's own take a ledger (News) for what they write -/
section
variable {prog : Program} {w : World} {A : Around} {E : Value → Shared → Prop} {s : Shared} {K : Frag}

/-! the whole heap as the ledger: makes every rule that writes through a ledger a rule over any heap -/
def ledger (h : Heap) (L d : Addr) : List (Addr × Obj) := (List.range h.objs.size).filterMap fun a => if a = L ∨ a = d then none else (h.get? a).map fun o => (a, o)
end
end Att

namespace L2
open PySem PySem.Spec PyProof.Rows

theorem vals_ints : ∀ {vs : List Value} {ns : List Int}, IntsAre vs ns → Vals (ns.map V.int) vs
  | _, _, .nil => .nil
  | _, _, .cons n t h => .cons ⟨t, rfl⟩ (vals_ints h)

def Only (H : Hp) : Prop := ∀ b, H b = none ∨ ∃ o xs, H b = some (.frz o (.lst xs))

theorem law_call {P : Program} {w : World} {K : PySem.W.Frag} {mg mb : Str → Option Value} {CX : CXT} {k : Nat} {fa a : Addr} {fd : FuncData} {x : Str} {sp : Sp} {s₁ : Shared} {vs : List Value} {ns : List Int}
    (KX : K.In s₁.heap) (hns : s₁.heap.Ns mainGlobals mg) (hb : s₁.heap.Ns builtinsNs mb) (hbb : ∀ x : Str, x ≠ "__name__" → mb x = bootBuiltins x) (hlim : s₁.heap.NoLimit) (hg : s₁.gens = #[])
    (ha : s₁.heap.get? a = some { cls := .type "list", data := .seq vs.toArray }) (hi : IntsAre vs ns) (hl : ns.length ≤ sizeLine) (hr : Room k callerA)
    (F : ∀ base : Heap, K.In base → base.Ns mainGlobals mg → FnOk P w K mg base CX k fa fd [x] sp) (hbind : ∀ (s : Shared) (u : Value), BindsTo s fd ⟨[u], []⟩ [(x, u)])
    (hsp : ∀ H : Hp, Only H → SqL K H a (ns.map V.int) → sp [.ref a] H (fun v _ => v = .bl true) fun _ _ _ => False)
    (hCX : ∀ H e s', CX [] H s₁ (fun _ _ _ => False) e s' → False) :
    codeAny (model P w) callerA (.call (.ref fa) ⟨[.ref a], []⟩) (fun r s' => r = .ok (.ret (.bool true)) ∧ OldK s₁.heap s'.heap ∧ s'.os = s₁.os ∧ AllBare s'.gens) s₁ := by
  have rv := vals_ints hi
  have lenV := hi.length
  -- from an abstract heap in which nothing but the script may be tracked
  have core : ∀ H : Hp, Only H → SqL K H a (ns.map V.int) → HOk P w H s₁.heap → (∀ b, H b ≠ none → b = a) → (H a ≠ none → K.lookup a = none) →
      codeAny (model P w) callerA (.call (.ref fa) ⟨[.ref a], []⟩) (fun r s' => r = .ok (.ret (.bool true)) ∧ OldK s₁.heap s'.heap ∧ s'.os = s₁.os ∧ AllBare s'.gens) s₁ := by
    intro H hO hS hok hA hK
    have base_of : ∀ {b : Addr} {o : Obj}, s₁.heap.get? b = some o → H b = none → (hidT s₁.heap H).get? b = some o := fun e n => hidT_get e n
    have noA : ∀ {b : Addr} {o : Obj} {es : Array DictEntry} {ep : Nat}, s₁.heap.get? b = some o → o.data = .dict es ep → H b = none := fun {b o es ep} e d => by
      cases q : H b with
      | none => rfl
      | some u =>
        have e' : b = a := hA b (by rw [q]; simp)
        subst e'
        rw [ha] at e; cases e
        have d' : Data.seq vs.toArray _ = Data.dict es ep := d
        cases d'
    have nsK : ∀ {b : Addr} {m : Str → Option Value}, s₁.heap.Ns b m → (hidT s₁.heap H).Ns b m := fun {b m} ⟨o, es, ep, e, d, r⟩ => ⟨o, es, ep, base_of e (noA e d), d, r⟩
    have hKb : K.In (hidT s₁.heap H) := fun b o e => base_of (KX b o e) (by
      cases q : H b with
      | none => rfl
      | some u =>
        have e' : b = a := hA b (by rw [q]; simp)
        subst e'
        rw [hK (by rw [q]; simp)] at e; cases e)
    have hM : Mod K mg (hidT s₁.heap H) := ⟨hKb, nsK hns, ⟨mb, nsK hb, hbb⟩, let ⟨mc, h1, h2⟩ := hlim; ⟨mc, nsK h1, h2⟩⟩
    have e0 : Env0 P w K mg (hidT s₁.heap H) callerA [] s₁ H := ⟨rfl, hM, fun b o e => of_hidT e, Nat.le_of_eq (hidT_size _ _), trivial, fun b hb => absurd (show b ∈ ([] : List Addr) from hb) (by simp), hok, .of_eq hg⟩
    refine codeAny_mono ((F _ hKb (nsK hns)).run callerA [] s₁ H ⟨[.ref a], []⟩ [.ref a] [.ref a] _ _ hr e0 (hbind s₁ (.ref a)) (.cons rfl .nil) (hsp H hO hS)) fun r s' h => ?_
    cases r with
    | error e => exact (hCX H e s' h).elim
    | ok fl =>
      cases fl with
      | next => exact False.elim h
      | brk => exact False.elim h
      | cont => exact False.elim h
      | ret u =>
        obtain ⟨v, H', os, bare, un, hok', r', q⟩ := h
        have q' : v = .bl true := q
        subst q'
        obtain rfl : u = Value.bool true := r'
        refine ⟨rfl, OldK.of_keep fun b o e => ?_, os, bare⟩
        cases q : H b with
        | none => exact un.keep b o e q (by intro z; exact absurd (show b ∈ ([] : List Addr) from z) (by simp)) (by simp)
        | some u =>
          rcases hO b with z | ⟨ob, xs, z⟩
          · rw [q] at z; cases z
          · have z2 := un.frzs b ob _ z
            obtain ⟨e1, _⟩ := hok b _ z
            obtain ⟨e2, _⟩ := hok' b _ z2
            rw [e] at e1; cases e1
            exact e2
  cases hk : K.lookup a with
  | some o =>
    -- the script is one of the module's own objects
    have e := KX a o hk
    rw [ha] at e
    cases e
    refine core (fun _ => none) (fun _ => .inl rfl) (.inr ⟨_, vs.toArray, _, hk, rfl, rfl, rfl, by rw [List.size_toArray, lenV]; exact hl, by simpa using rv⟩) (fun b u z => by have z' : (none : Option HO) = some u := z; cases z') (fun b z => absurd rfl z) fun z => absurd rfl z
  | none =>
    refine core (fun b => if b = a then some (.frz { cls := .type "list", data := .seq vs.toArray } (.lst (ns.map V.int))) else none) (fun b => ?_) (.inl (.inr ⟨{ cls := .type "list", data := .seq vs.toArray }, if_pos rfl⟩)) (fun b u z => ?_) (fun b z => ?_) fun _ => hk
    · by_cases hb : b = a
      · exact .inr ⟨_, _, if_pos hb⟩
      · exact .inl (if_neg hb)
    · by_cases hb : b = a
      · have z' := (if_pos hb).symm.trans z
        cases z'
        subst hb
        exact ⟨ha, by rw [List.length_map]; exact hl, vs, _, rv, ha⟩
      · have z' := (if_neg hb).symm.trans z
        cases z'
    · by_cases hb : b = a
      · exact hb
      · exact absurd (if_neg hb) z
end L2

namespace L2
open PySem PySem.Spec PyProof.Rows

abbrev KOf {K : PySem.W.Frag} {h : Heap} (_ : K.In h) : PySem.W.Frag := K

theorem walk_of {l : PySem.W.OpenLaw} {n k : Nat} {q : Program} {loose : List Str} {XP : (Str → Option Value) → Heap → Prop} {YP : World → Heap → Prop} {d : DefRec} {K : Params → PySem.W.Frag} {CX : World → CXT} {sp : World → Sp} {x : Str}
    (hn : l.most = some n) (hn2 : n ≤ sizeLine) (hdf : d.params.defaults = []) (hr : Room k callerA)
    (hY : ∀ (w : World) (h : Heap), YP w h → (K w.params).In h)
    (F : ∀ (w : World) (mg : Str → Option Value) (fa : Addr) (h : Heap), (K w.params).In h → h.Ns mainGlobals mg → mg d.name = some (.ref fa) →
      ∃ fd : FuncData, (∀ (s : Shared) (u : Value), BindsTo s fd ⟨[u], []⟩ [(x, u)]) ∧
        ∀ base : Heap, (K w.params).In base → base.Ns mainGlobals mg → FnOk l.prog w (K w.params) mg base (CX w) k fa fd [x] (sp w))
    (hsp : ∀ (w : World) (H : Hp) (a : Addr) (ns : List Int), ns.length ≤ n → Only H → SqL (K w.params) H a (ns.map V.int) → sp w [.ref a] H (fun v _ => v = .bl true) fun _ _ _ => False)
    (hCX : ∀ (w : World) (H : Hp) (s : Shared) (e : Value) (s' : Shared), CX w [] H s (fun _ _ _ => False) e s' → False) :
    PySem.W.WalkO q loose XP YP l.row.toRowW d [] (fun f vs => PySem.call f vs) := by
  refine Att.attach_call hn hdf fun w s₀ s₁ mg mb fa o pm cd doc a vs ns G Y ho hd hcd hmg hobj hints hlen hg => ?_
  have KX := hY w _ Y
  obtain ⟨fd, hb, hF⟩ := F w mg fa _ KX G.T.g hmg
  exact law_call KX G.T.g G.T.b G.T.builtins G.T.nolimit hg hobj hints (Nat.le_trans hlen hn2) hr hF hb (fun H hO hS => hsp w H a ns hlen hO hS) fun H e s' => hCX w H s₁ e s'
end L2

/- THE LAST THEOREM (shape; LID, My.* are yours):
   My.Adr: a structure of the addresses that your layer names (classes, functions); My.Txt K t: a structure (Prop) of the equations over K;
   My.txt_mk : {K} {implicit addresses ..} (e1 : nsIn K mainGlobals "law" = some (some (.ref f))) (e2 : K.lookup f = some ⟨oc, od, .func (fnOf "law" "law" params body scope dV kV doc pm an cdv ct), sl⟩) (e3 : codeIn K cdv "law" = true) .. : ∃ t, My.Txt K t

set_option maxRecDepth 100000 in
set_option maxHeartbeats 0 in
theorem PySem.Challenge.cw_LID_holds : PySem.Challenge.rw_LID.Holds := by
  w_on; o_law; k_head; (case hw => w_witness2)
  k_fill
  refine L2.walk_of (l := PySem.Challenge.rw_LID) (n := 63) (k := 40) (x := "script") (CX := fun w => ..) (sp := fun _ => My.sp_law) rfl (by decide) rfl ⟨rfl, by decide, by decide⟩ (fun w h Y => PySem.W.kIn_of Y) ?F ?S ?C
  case F =>
    intro w mg fa h KX G hmg
    have T : ∃ t, My.Txt (L2.KOf KX) t := by
      dsimp only [L2.KOf]                          -- K must stand as «<heap const> w.params» for k_is
      refine' My.txt_mk ?e1 ?e2 ?e3 ..
      (case e1 => PySem.W.k_is)                    -- in the order: a name -> its address -> its object -> its parts
      (case e2 => PySem.W.k_is)
      ..
    obtain ⟨t, T⟩ := T
    have e0 := hmg.symm.trans (PySem.W.mg_of KX G T.law)
    cases e0                                       -- fa is the law's own address
    exact ⟨_, fun s u => .of_eq rfl, fun base kb nb => My.law_fn T kb nb⟩     -- if «.of_eq rfl» comes too early: refine' ⟨_, ?b, fun base kb nb => My.law_fn T kb nb⟩; exact fun s u => .of_eq rfl
  case S => exact fun w H a ns hl hO hS => ..
  case C => exact ..
(the tactic k_is has no namespace: write k_is) -/

/-! SHORT WORDS over the layer: a def of the text, its body, what a loop and a test want. -/
namespace L2
open PySem PySem.Spec PyProof.Rows

/-! ### the text by places -/
def defArgs (s : Stmt) : Arguments := match s with
  | .FunctionDef _ a _ _ _ _ _ _ _ _ => a
  | _ => { posonlyargs := [], args := [], vararg := none, kwonlyargs := [], kw_defaults := [], kwarg := none, defaults := [] }
def defBody (s : Stmt) : List Stmt := match s with
  | .FunctionDef _ _ b _ _ _ _ _ _ _ => b
  | _ => []
def defScope (s : Stmt) : Scope := match s with
  | .FunctionDef _ _ _ _ _ _ sc _ _ _ => sc
  | _ => { kind := .function, names := [], isGenerator := false, isCoroutine := false }

/-! ### no exception leaves a def -/
abbrev CX0 : CXT := fun _ _ _ _ _ _ => False
abbrev E0 : XK := fun _ _ _ => False
theorem pass0 {X : Cx} : Passes CX0 X E0 := fun _ _ _ _ _ _ _ h => h.elim

/-! ### a def (or method) of the text as it stands behind the top -/
structure Fun (K : PySem.W.Frag) (x qual : Str) (st : Stmt) (f : Addr) (fd : FuncData) : Prop where
  ex : ∃ (oc : Value) (od : Option Addr) (kV doc pm : Value) (an : Option Addr) (cdv ct : Value) (osl : Array (Option Value)),
    fd = PySem.W.fnOf x qual (defArgs st) (defBody st) (defScope st) .none kV doc pm an cdv ct ∧ K.lookup f = some ⟨oc, od, .func fd, osl⟩ ∧ PySem.W.codeIn K cdv qual = true
  kp : PySem.W.keepIn K (.ref f) = true
section
variable {P : Program} {w : World} {K : PySem.W.Frag} {mg : Str → Option Value} {base : Heap}
theorem Fun.ok {x qual : Str} {st : Stmt} {f : Addr} {fd : FuncData} {N ps : List Str} {k : Nat} {sp : Sp} (F : Fun K x qual st f fd) (S : FnScope N ps (defScope st)) (len : ∀ vs H Q E, sp vs H Q E → vs.length = ps.length)
    (hbody : ∀ (cdv : Value) (A : Around) (outer : List Env) (s : Shared) (H : Hp) (vs : List V) (Q : VK) (E : XK), Room k (A.deeper (envOfC qual (defScope st) s.heap.objs.size f cdv)) → sp vs H Q E →
      ∃ t, PSs (cxOf CX0 P w K mg base N qual (defScope st) f cdv A outer s H E).nox (defBody st) t ∧ t { nx := fun _ H' => Q .non H', rt := Q } (start N vs) H) : FnOk P w K mg base CX0 (k + 1) f fd ps sp := by
  obtain ⟨oc, od, kV, doc, pm, an, cdv, ct, osl, rfl, lk, hcd⟩ := F.ex
  refine fn_of lk hcd S len fun A outer s H vs Q E hr hsp => ?_
  obtain ⟨t, h, q⟩ := hbody cdv A outer s H vs Q E hr hsp
  exact ⟨t, h.nox, q⟩
theorem Fun.binds {x qual : Str} {st : Stmt} {f : Addr} {fd : FuncData} {ps : List Str} (F : Fun K x qual st f fd)
    (h : ∀ (kV doc pm : Value) (an : Option Addr) (cdv ct : Value) (us : List Value), us.length = ps.length → bindArgs (PySem.W.fnOf x qual (defArgs st) (defBody st) (defScope st) .none kV doc pm an cdv ct) ⟨us, []⟩ = pure (ps.zip us)) : Binds K fd ps [] := by
  obtain ⟨oc, od, kV, doc, pm, an, cdv, ct, osl, rfl, lk, hcd⟩ := F.ex
  exact .all (h kV doc pm an cdv ct)
theorem fun_mk {x qual : Str} {st : Stmt} {f : Addr} {oc : Value} {od an : Option Addr} {osl : Array (Option Value)} {kV doc pm cdv ct : Value} (l : K.lookup f = some ⟨oc, od, .func (PySem.W.fnOf x qual (defArgs st) (defBody st) (defScope st) .none kV doc pm an cdv ct), osl⟩)
    (c : PySem.W.codeIn K cdv qual = true) (k : PySem.W.keepIn K (.ref f) = true) : Fun K x qual st f (PySem.W.fnOf x qual (defArgs st) (defBody st) (defScope st) .none kV doc pm an cdv ct) := ⟨⟨oc, od, kV, doc, pm, an, cdv, ct, osl, rfl, l, c⟩, k⟩
end
theorem hu_of {A : Around} {k : Nat} (hr : Room k A) : A.units + 1 < cLine := Nat.lt_of_le_of_lt (Nat.add_le_add_left (by decide : 1 ≤ 64) _) hr.units
/-! ### expressions in short: the name that stands in the i-th slot -/
section
variable {X : Cx}
theorem pv (i : Nat) {x : Str} {pos : Pos} (hN : X.N[i]? = some x := by rfl) (hv : Vis X.env.scope x := by first | exact Or.inl rfl | exact Or.inr (Or.inl rfl) | exact Or.inr (Or.inr rfl)) (hd : (x == ("__debug__" : Str)) = false := by decide)
    (hcd : (x == ("__classdict__" : Str)) = false := by decide) : PE X (.Name x pos) (tVar i) := pe_var hN hv hd hcd
end

/-! ### tests -/
theorem iteF {A B : Prop} (h : B) : if false = true then A else B := by
  rw [if_neg Bool.false_ne_true]
  exact h
theorem iteT {A B : Prop} (h : A) : if true = true then A else B := by
  rw [if_pos rfl]
  exact h
/-! ### heaps -/
def Same (H H' : Hp) : Prop := ∀ b o, H b = some o → H' b = some o
theorem Same.refl (H : Hp) : Same H H := fun _ _ h => h
theorem Same.trans {H H1 H2 : Hp} (a : Same H H1) (b : Same H1 H2) : Same H H2 := fun c o h => b c o (a c o h)
theorem Same.free {H H' : Hp} (e : Same H H') {l : Addr} (h : H' l = Option.none) : H l = Option.none := by
  cases q : H l with
  | none => rfl
  | some o =>
    rw [e l o q] at h
    cases h
theorem Same.seq {K : PySem.W.Frag} {H H' : Hp} {a : Addr} {xs : List V} (e : Same H H') (h : SqL K H a xs) : SqL K H' a xs := by
  rcases h with (h | ⟨o, h⟩) | h
  · exact .inl (.inl (e _ _ h))
  · exact .inl (.inr ⟨o, e _ _ h⟩)
  · exact .inr h

end L2

namespace L2
open PySem PySem.Spec PyProof.Rows

/-! ### lists of pairs as tables -/
section
variable {κ : Type} [DecidableEq κ]
def valV (kvs : List (κ × V)) (k : κ) : Option V := (kvs.find? fun kv => decide (kv.1 = k)).map (·.2)
def putK (kvs : List (κ × V)) (k : κ) (v : V) : List (κ × V) :=
  if (kvs.any fun kv => decide (kv.1 = k)) = true then kvs.map (fun kv => if kv.1 = k then (kv.1, v) else kv) else kvs ++ [(k, v)]
theorem valV_nil {k : κ} : valV ([] : List (κ × V)) k = none := rfl
theorem valV_pos {p : κ × V} {r : List (κ × V)} {k : κ} (e : p.1 = k) : valV (p :: r) k = some p.2 := by simp [valV, List.find?_cons, e]
theorem valV_neg {p : κ × V} {r : List (κ × V)} {k : κ} (e : ¬ p.1 = k) : valV (p :: r) k = valV r k := by simp [valV, List.find?_cons, e]
theorem valV_any (k : κ) : ∀ kvs : List (κ × V), (kvs.any fun kv => decide (kv.1 = k)) = (valV kvs k).isSome
  | [] => rfl
  | p :: r => by
    rw [List.any_cons]
    by_cases e : p.1 = k
    · simp only [valV_pos e, decide_eq_true e, Bool.true_or, Option.isSome_some]
    · rw [valV_neg e, decide_eq_false e, Bool.false_or]; exact valV_any k r
theorem valV_map (k j : κ) (y : V) : ∀ kvs : List (κ × V), valV (kvs.map fun kv => if kv.1 = k then (kv.1, y) else kv) j = (valV kvs j).map fun x => if j = k then y else x
  | [] => rfl
  | p :: r => by
    have ih := valV_map k j y r
    rw [List.map_cons]
    by_cases h : p.1 = k
    · rw [if_pos h]
      by_cases e : p.1 = j
      · rw [valV_pos (p := (p.1, y)) e, valV_pos e, Option.map_some, if_pos (e.symm.trans h)]
      · rw [valV_neg (p := (p.1, y)) e, valV_neg e, ih]
    · rw [if_neg h]
      by_cases e : p.1 = j
      · rw [valV_pos (p := p) e, valV_pos e, Option.map_some, if_neg (fun z => h (e.trans z))]
      · rw [valV_neg (p := p) e, valV_neg e, ih]
theorem valV_snoc (k j : κ) (y : V) : ∀ kvs : List (κ × V), valV kvs k = none → valV (kvs ++ [(k, y)]) j = if j = k then some y else valV kvs j
  | [], _ => by
    by_cases e : k = j
    · rw [if_pos e.symm]; exact valV_pos (p := (k, y)) e
    · rw [if_neg (fun z => e z.symm)]; exact valV_neg (p := (k, y)) e
  | p :: r, hn => by
    rw [List.cons_append]
    have hk : ¬ p.1 = k := fun z => by rw [valV_pos z] at hn; cases hn
    rw [valV_neg hk] at hn
    have ih := valV_snoc k j y r hn
    by_cases e : p.1 = j
    · rw [valV_pos e, valV_pos e, if_neg (fun z => hk (e.trans z))]
    · rw [valV_neg e, valV_neg e, ih]
theorem valV_put (kvs : List (κ × V)) (k j : κ) (y : V) : valV (putK kvs k y) j = if j = k then some y else valV kvs j := by
  unfold putK
  by_cases a : (kvs.any fun kv => decide (kv.1 = k)) = true
  · rw [if_pos a, valV_map]
    rw [valV_any] at a
    by_cases e : j = k
    · obtain ⟨x, hx⟩ := Option.isSome_iff_exists.mp a
      rw [if_pos e, e, hx, Option.map_some, if_pos rfl]
    · rw [if_neg e]
      cases valV kvs j with
      | none => rfl
      | some x => rw [Option.map_some, if_neg e]
  · rw [if_neg a]
    refine valV_snoc k j y kvs ?_
    rw [valV_any] at a
    cases q : valV kvs k with
    | none => rfl
    | some x => rw [q] at a; exact (a rfl).elim
theorem length_putK (kvs : List (κ × V)) (k : κ) (v : V) : (putK kvs k v).length ≤ kvs.length + 1 := by
  unfold putK
  split
  · rw [List.length_map]; omega
  · rw [List.length_append, List.length_cons, List.length_nil]; omega
theorem RelO.isSome_eq {o : Option V} {u : Option Value} (r : RelO o u) : o.isSome = u.isSome := by
  cases o with
  | none => cases u with
    | none => rfl
    | some _ => exact (show False from r).elim
  | some _ => cases u with
    | none => exact (show False from r).elim
    | some _ => rfl
theorem RelO.getD {o : Option V} {u : Option Value} {d : V} {d' : Value} (r : RelO o u) (rd : RelV d d') : RelV (o.getD d) (u.getD d') := by
  cases o with
  | none => cases u with
    | none => exact rd
    | some _ => exact (show False from r).elim
  | some _ => cases u with
    | none => exact (show False from r).elim
    | some _ => exact r

theorem KV.val {kvs : List (κ × V)} {vs : List (κ × Value)} (r : KV kvs vs) (k : κ) : RelO (valV kvs k) (valueAt vs k) := by
  unfold KV at r
  induction r with
  | nil => exact True.intro
  | @cons p q ps qs h t ih =>
    obtain ⟨h1, h2⟩ := h
    by_cases e : p.1 = k
    · have e' : q.1 = k := h1.symm.trans e
      have b : valueAt (q :: qs) k = some q.2 := by simp [valueAt, List.find?_cons, e']
      rw [valV_pos e, b]; exact h2
    · have e' : ¬ q.1 = k := fun z => e (h1.trans z)
      have b : valueAt (q :: qs) k = valueAt qs k := by simp [valueAt, List.find?_cons, e']
      rw [valV_neg e, b]; exact ih
theorem KV.any {kvs : List (κ × V)} {vs : List (κ × Value)} (r : KV kvs vs) (k : κ) : (kvs.any fun kv => decide (kv.1 = k)) = vs.any fun kv => decide (kv.1 = k) := by
  unfold KV at r
  induction r with
  | nil => rfl
  | cons h t ih => rw [List.any_cons, List.any_cons, ih, h.1]
theorem KV.repl {kvs : List (κ × V)} {vs : List (κ × Value)} (r : KV kvs vs) (k : κ) {y : V} {u : Value} (ry : RelV y u) :
    KV (kvs.map fun kv => if kv.1 = k then (kv.1, y) else kv) (vs.map fun kv => if kv.1 = k then (kv.1, u) else kv) := by
  unfold KV at r ⊢
  induction r with
  | nil => exact .nil
  | @cons p q ps qs h t ih =>
    rw [List.map_cons, List.map_cons]
    refine .cons ?_ ih
    obtain ⟨h1, h2⟩ := h
    by_cases e : p.1 = k
    · rw [if_pos e, if_pos (h1.symm.trans e)]; exact ⟨h1, ry⟩
    · rw [if_neg e, if_neg (fun z => e (h1.trans z))]; exact ⟨h1, h2⟩
theorem KV.put {kvs : List (κ × V)} {vs : List (κ × Value)} (r : KV kvs vs) (k : κ) {y : V} {u : Value} (ry : RelV y u) : KV (putK kvs k y) (stored vs k u) := by
  unfold putK stored
  rw [r.any k]
  by_cases e : (vs.any fun kv => decide (kv.1 = k)) = true
  · rw [if_pos e, if_pos e]; exact r.repl k ry
  · rw [if_neg e, if_neg e]; exact Paired.snoc r ⟨rfl, ry⟩
theorem KV.length {kvs : List (κ × V)} {vs : List (κ × Value)} (r : KV kvs vs) : kvs.length = vs.length := Paired.length r
end


/-! ### a tracked dict, its keys ints and texts or tuples of these -/
theorem kV_is {P : Program} {w : World} {k : Key} {u : Value} (r : RelV (kV k) u) : (mixKind P w).is k u = true := by
  cases k with
  | inl i => obtain ⟨t, e⟩ := (show ∃ t, u = Value.int i t from r); subst e; exact mixKind_int P w i t
  | inr x => obtain ⟨t, e⟩ := (show ∃ t, u = Value.str x t from r); subst e; exact mixKind_str P w x t
theorem items_are {P : Program} {w : World} : ∀ {ks : List Key} {us : List Value}, Vals (ks.map kV) us → ItemsAre (mixKind P w) ks us
  | [], _, r => by rw [List.map_nil] at r; cases r; exact .nil
  | k :: ks, _, r => by
    rw [List.map_cons] at r
    cases r with
    | cons h t => exact .cons (kV_is h) (items_are t)

abbrev KT (H : Hp) : List (List Key × V) → List (List Key × Addr × Value) → Prop := Paired fun p q => p.1 = q.1 ∧ H q.2.1 = some (.tup (p.1.map kV)) ∧ RelV p.2 q.2.2
theorem KT.val {H : Hp} {kvs : List (List Key × V)} {xs : List (List Key × Addr × Value)} (r : KT H kvs xs) (k : List Key) : RelO (valV kvs k) ((atKey xs k).map (·.2)) := by
  induction r with
  | nil => exact True.intro
  | @cons p q ps qs h t ih =>
    obtain ⟨h1, _, h2⟩ := h
    by_cases e : p.1 = k
    · have e' : q.1 = k := h1.symm.trans e
      have b : atKey (q :: qs) k = some q.2 := by simp [atKey, List.find?_cons, e']
      rw [valV_pos e, b]; exact h2
    · have e' : ¬ q.1 = k := fun z => e (h1.trans z)
      have b : atKey (q :: qs) k = atKey qs k := by simp [atKey, List.find?_cons, e']
      rw [valV_neg e, b]; exact ih
theorem KT.repl {H : Hp} {kvs : List (List Key × V)} {xs : List (List Key × Addr × Value)} (r : KT H kvs xs) (k : List Key) {y : V} {u : Value} (ry : RelV y u) :
    KT H (kvs.map fun kv => if kv.1 = k then (kv.1, y) else kv) (xs.map (putAt k u)) := by
  induction r with
  | nil => exact .nil
  | @cons p q ps qs h t ih =>
    rw [List.map_cons, List.map_cons]
    refine .cons ?_ ih
    obtain ⟨h1, h2, h3⟩ := h
    unfold putAt
    by_cases e : p.1 = k
    · rw [if_pos e, if_pos (h1.symm.trans e)]; exact ⟨h1, h2, ry⟩
    · rw [if_neg e, if_neg (fun z => e (h1.trans z))]; exact ⟨h1, h2, h3⟩
theorem KT.put {H : Hp} {kvs : List (List Key × V)} {xs : List (List Key × Addr × Value)} (r : KT H kvs xs) (k : List Key) {b : Addr} {y : V} {u : Value} (hb : H b = some (.tup (k.map kV))) (ry : RelV y u) :
    KT H (putK kvs k y) (storedH xs k b u) := by
  have e : (kvs.any fun kv => decide (kv.1 = k)) = (atKey xs k).isSome := by
    rw [valV_any, (r.val k).isSome_eq, Option.isSome_map]
  unfold putK storedH
  rw [e]
  by_cases q : (atKey xs k).isSome = true
  · rw [if_pos q, if_pos q]; exact r.repl k ry
  · rw [if_neg q, if_neg q]; exact Paired.snoc r ⟨rfl, hb, ry⟩
theorem KT.keeps {H H' : Hp} {kvs : List (List Key × V)} {xs : List (List Key × Addr × Value)} (r : KT H kvs xs) (ht : ∀ b ys, H b = some (.tup ys) → H' b = some (.tup ys)) : KT H' kvs xs :=
  Paired.mapP r fun _ _ z => ⟨z.1, ht _ _ z.2.1, z.2.2⟩

section
variable {P : Program} {w : World} {H : Hp} {h : Heap} {a : Addr}
theorem rd_of {u : HO} (ok : HOk P w H h) (e : Rd H a u) : ObjOk P w H h a u := e.ok ok
theorem dk_rd {kvs : List (Key × V)} (ok : HOk P w H h) (e : Rd H a (.dK kvs)) : kvs.length ≤ sizeLine ∧ (a == sysModules) = false ∧ ∃ vs, KV kvs vs ∧ h.DictOf (mixKind P w) a vs :=
  show ObjOk P w H h a (.dK kvs) from rd_of ok e
theorem dk_of {kvs : List (Key × V)} (ok : HOk P w H h) (e : H a = some (.dK kvs)) : kvs.length ≤ sizeLine ∧ (a == sysModules) = false ∧ ∃ vs, KV kvs vs ∧ h.DictOf (mixKind P w) a vs := dk_rd ok (.inl e)
theorem key_of {ks : List Key} (ok : HOk P w H h) (e : H a = some (.tup (ks.map kV))) : (tupleKind (mixKind P w)).is h ks a := by
  obtain ⟨_, its, r, o, h1, h2, n, h3⟩ := (show ObjOk P w H h a (.tup (ks.map kV)) from ok a _ e)
  exact ⟨o, its.toArray, n, h1, h2, h3, by simpa using items_are r⟩
theorem dt_rd {kvs : List (List Key × V)} (ok : HOk P w H h) (e : Rd H a (.dT kvs)) : kvs.length ≤ sizeLine ∧ (a == sysModules) = false ∧
    ∃ xs, KT H kvs xs ∧ h.DictOfH (tupleKind (mixKind P w)) a xs := by
  obtain ⟨z, y, xs, r, o, es, ep, h1, h2, h3, h4, h5⟩ := (show ObjOk P w H h a (.dT kvs) from rd_of ok e)
  refine ⟨z, y, xs, r, o, es, ep, h1, h2, h3, h4, fun x hx => ?_, h5⟩
  have all : ∀ {l : List (List Key × V)} {m : List (List Key × Addr × Value)}, KT H l m → ∀ x ∈ m, (tupleKind (mixKind P w)).is h x.1 x.2.1 := by
    intro l m q
    induction q with
    | nil => intro x hx; exact nomatch hx
    | @cons p q ps qs hq t ih =>
      intro x hx
      rcases List.mem_cons.mp hx with e | hx
      · subst e
        exact key_of ok (by rw [← hq.1]; exact hq.2.1)
      · exact ih x hx
  exact all r x hx
theorem dt_of {kvs : List (List Key × V)} (ok : HOk P w H h) (e : H a = some (.dT kvs)) : kvs.length ≤ sizeLine ∧ (a == sysModules) = false ∧
    ∃ xs, KT H kvs xs ∧ h.DictOfH (tupleKind (mixKind P w)) a xs := dt_rd ok (.inl e)
end

def DGet (H : Hp) (a : Addr) (y : V) (r : Option V) : Prop :=
  (∃ kvs k, Rd H a (.dK kvs) ∧ y = kV k ∧ r = valV kvs k) ∨ ∃ kvs k b, Rd H a (.dT kvs) ∧ y = .ref b ∧ H b = some (.tup (k.map kV)) ∧ r = valV kvs k
def DPut (H : Hp) (a : Addr) (y v : V) (H' : Hp) : Prop :=
  (∃ kvs k, H a = some (.dK kvs) ∧ y = kV k ∧ kvs.length < sizeLine ∧ H' = upd H a (.dK (putK kvs k v))) ∨
  ∃ kvs k b, H a = some (.dT kvs) ∧ y = .ref b ∧ H b = some (.tup (k.map kV)) ∧ kvs.length < sizeLine ∧ H' = upd H a (.dT (putK kvs k v))
theorem DGet.k {H : Hp} {a : Addr} {kvs : List (Key × V)} {k : Key} (e : H a = some (.dK kvs)) : DGet H a (kV k) (valV kvs k) := .inl ⟨kvs, k, .inl e, rfl, rfl⟩
theorem DGet.t {H : Hp} {a b : Addr} {kvs : List (List Key × V)} {k : List Key} (e : H a = some (.dT kvs)) (eb : H b = some (.tup (k.map kV))) : DGet H a (.ref b) (valV kvs k) := .inr ⟨kvs, k, b, .inl e, rfl, eb, rfl⟩
theorem DPut.k {H : Hp} {a : Addr} {kvs : List (Key × V)} {k : Key} {v : V} (e : H a = some (.dK kvs)) (hl : kvs.length < sizeLine) : DPut H a (kV k) v (upd H a (.dK (putK kvs k v))) := .inl ⟨kvs, k, e, rfl, hl, rfl⟩
theorem DPut.t {H : Hp} {a b : Addr} {kvs : List (List Key × V)} {k : List Key} {v : V} (e : H a = some (.dT kvs)) (eb : H b = some (.tup (k.map kV))) (hl : kvs.length < sizeLine) :
    DPut H a (.ref b) v (upd H a (.dT (putK kvs k v))) := .inr ⟨kvs, k, b, e, rfl, eb, hl, rfl⟩


section
variable {X : Cx} {pins : List (Addr × Obj)} {σ : St} {H : Hp} {s : Shared} {a : Addr} {y v : V} {u r : Value} {o : Option V} {A : Around} {E : Value → Shared → Prop}

theorem Inv.big (I : Inv X pins σ H s) : sysModules < s.heap.objs.size := by
  have h : mainGlobals < s.heap.objs.size := (I.mod.glob.keeps I.bk).lt
  exact Nat.lt_trans (by decide) h

theorem d_getItem {Q : Value → Shared → Prop} (hu : A.units + 1 < cLine) (I : Inv X pins σ H s) (g : DGet H a y (some v)) (ry : RelV y u) (h : ∀ w' s', Inv X pins σ H s' → RelV v w' → Q w' s') :
    wpAny (model X.prog X.w) A (getItem (.ref a) u) Q E s := by
  rcases g with ⟨kvs, k, e, ey, l⟩ | ⟨kvs, k, b, e, ey, eb, l⟩
  · subst ey
    obtain ⟨z, hd, vs, rel, dd⟩ := dk_rd I.hok e
    obtain ⟨w', hw, rw'⟩ := RelO.some_of (v := v) (o := valueAt vs k) (by rw [l]; exact rel.val k)
    exact wpAny_getItem_of (kV_is ry) dd.mapOf hw (h w' _ (I.tok _) rw')
  · subst ey
    cases (show u = Value.ref b from ry)
    obtain ⟨z, hd, xs, rel, dd⟩ := dt_rd I.hok e
    obtain ⟨w', hw, rw'⟩ := RelO.some_of (v := v) (o := (atKey xs k).map (·.2)) (by rw [l]; exact rel.val k)
    obtain ⟨p, hp, hp2⟩ := Option.map_eq_some_iff.mp hw
    refine wpAny_getItem_heap (tupleKind_room_in1 hu) (key_of I.hok eb) dd hp ?_
    rw [hp2]
    exact h w' _ (I.tok _) rw'
theorem d_notIn {Q : Value → Shared → Prop} (hu : A.units + 1 < cLine) (I : Inv X pins σ H s) (g : DGet H a y o) (ry : RelV y u) (h : ∀ s', Inv X pins σ H s' → Q (.bool (!o.isSome)) s') :
    wpAny (model X.prog X.w) A (compareOp .NotIn u (.ref a)) Q E s := by
  rcases g with ⟨kvs, k, e, ey, l⟩ | ⟨kvs, k, b, e, ey, eb, l⟩
  · subst ey
    obtain ⟨z, hd, vs, rel, dd⟩ := dk_rd I.hok e
    refine wpAny_notIn_of (kV_is ry) hd dd.mapOf ?_
    rw [← (rel.val k).isSome_eq, ← l]
    exact h _ (I.tok _)
  · subst ey
    cases (show u = Value.ref b from ry)
    obtain ⟨z, hd, xs, rel, dd⟩ := dt_rd I.hok e
    refine wpAny_notIn_heap (tupleKind_room_in1 hu) (key_of I.hok eb) hd dd ?_
    have q := (rel.val k).isSome_eq
    rw [Option.isSome_map] at q
    rw [← q, ← l]
    exact h _ (I.tok _)
theorem d_write {h' : Heap} {t' : Nat} {ob : HO} (I : Inv X pins σ H s) (mu : Mut (H a)) (hs : Heap.SameBut a s.heap h') (he : ∃ q, h'.get? a = some q) (new : ObjOk X.prog X.w (upd H a ob) h' a ob) :
    Inv X pins σ (upd H a ob) { s with heap := h', toks := t' } :=
  I.write (x := a) (e := a) mu (.inl rfl) (fun b q hb z => (hs.2 b hb).trans z) he new
theorem dk_new {P : Program} {w : World} {H' : Hp} {h' : Heap} {kvs : List (Key × V)} {vs : List (Key × Value)} (z : kvs.length ≤ sizeLine) (hd : (a == sysModules) = false) (rel : KV kvs vs) (dd : h'.DictOf (mixKind P w) a vs) :
    ObjOk P w H' h' a (.dK kvs) := ⟨z, hd, vs, rel, dd⟩
theorem d_setItem {H' : Hp} {Q : Unit → Shared → Prop} (hu : A.units + 1 < cLine) (I : Inv X pins σ H s) (g : DPut H a y v H') (ry : RelV y u) (rv : RelV v r) (h : ∀ s', Inv X pins σ H' s' → Q () s') :
    wpAny (model X.prog X.w) A (setItem (.ref a) u r) Q E s := by
  rcases g with ⟨kvs, k, e, ey, l, eH⟩ | ⟨kvs, k, b, e, ey, eb, l, eH⟩
  · subst ey eH
    obtain ⟨z, hd, vs, rel, dd⟩ := dk_of I.hok e
    have hz : vs.length ≤ sizeLine := by rw [← rel.length]; exact z
    have hl : (putK kvs k v).length ≤ sizeLine := by have := length_putK kvs k v; omega
    refine wpAny_setItem_pairs (hsz := hz) (kV_is ry) dd fun h' dd' hs => h _ ?_
    have he : ∃ q, h'.get? a = some q := let ⟨q, _, _, hq, _⟩ := dd'; ⟨q, hq⟩
    exact d_write I (by rw [e]; exact True.intro) hs he (dk_new hl hd (rel.put k rv) dd')
  · subst ey eH
    cases (show u = Value.ref b from ry)
    obtain ⟨z, hd, xs, rel, dd⟩ := dt_of I.hok e
    have hz : xs.length ≤ sizeLine := by rw [← Paired.length rel]; exact z
    have hl : (putK kvs k v).length ≤ sizeLine := by have := length_putK kvs k v; omega
    refine wpAny_setItem_heap (hsz := hz) (tupleKind_room_in1 hu) (key_of I.hok eb) dd fun h' dd' hs => h _ ?_
    obtain ⟨q, es, ep, hq, h2, h3, h4, _, h5⟩ := dd'
    refine d_write I (by rw [e]; exact True.intro) hs ⟨q, hq⟩ ⟨hl, hd, _, (rel.put k eb rv).keeps fun c ys ec => ?_, q, es, ep, hq, h2, h3, h4, h5⟩
    rw [upd_ne (ne_of ec e (fun z => nomatch z))]
    exact ec
end

section
variable {X : Cx} {pins : List (Addr × Obj)} {σ : St} {H : Hp} {s : Shared} {a : Addr} {kvs : List (Key × V)} {k : Key} {u : Value} {A : Around} {E : Value → Shared → Prop}
end


/-! ### readings and rules -/
def NoSl (i : Expr) : Prop := ∀ ov iv, subscripted i false ov iv = operate [ov, iv] (getItem ov iv)
theorem subD_of {prog : Program} {w : World} {A : Around} {E : Value → Shared → Prop} {s : Shared} {env : Env} {value slice : Expr} {pos : Pos} {T id : String} {Q : Value → Shared → Prop}
    (hl : typeLookup (.type T) "__getitem__" = pure (some (.builtin id))) (hs : NoSl slice)
    (h : wpAny (model prog w) A (eval value env) (fun o s₁ => wpAny (model prog w) A (eval slice env) (fun i s₂ => s₂.TypeIs o T ∧ wpAny (model prog w) A (getItem o i) Q E s₂) E s₁) E s) :
    wpAny (model prog w) A (eval (.Subscript value slice pos) env) Q E s := by
  refine Subscript_ (wpAny_mono h (fun o s₁ h₁ => wpAny_mono h₁ (fun i s₂ h₂ => ?_) fun _ _ x => x) fun _ _ x => x)
  obtain ⟨hT, h₂⟩ := h₂
  unfold subscriptTail
  refine wpAny_bind ?_
  rw [getitemInPython_of_ne hT.not_modules]
  refine wpAny_bind (wpAny_specialOf hT hl ?_)
  have fin : wpAny (model prog w) A (subscripted slice false o i) (fun r s₃ => wpAny (model prog w) A (letTemporaryGo value o r >>= fun _ => pure r) Q E s₃) E s₂ := by
    rw [hs o i]
    exact wpAny_operating (wpAny_mono h₂ (fun r s₃ h₃ => wpAny_bind (wpAny_letTemporaryGo (wpAny_pure h₃))) fun _ _ x => x)
  first
    | exact wpAny_pure (wpAny_bind fin)
    | exact wpAny_bind (wpAny_pure (wpAny_bind fin))
    | exact wpAny_bind fin

theorem dict_typeIs {X : Cx} {pins : List (Addr × Obj)} {σ : St} {H : Hp} {s : Shared} {a : Addr} {y : V} {o : Option V} (I : Inv X pins σ H s) (g : DGet H a y o) : s.TypeIs (.ref a) "dict" := by
  rcases g with ⟨kvs, k, e, _, _⟩ | ⟨kvs, k, b, e, _, _, _⟩
  · obtain ⟨_, _, vs, _, dd⟩ := dk_rd I.hok e
    exact dd.typeIs
  · obtain ⟨_, _, xs, _, dd⟩ := dt_rd I.hok e
    exact dd.typeIs
def tDGet (td ty : TE) : TE := fun σ H Q => td σ H fun x H1 => ty σ H1 fun y H2 => ∃ a v, x = .ref a ∧ DGet H2 a y (some v) ∧ Q v H2
def tDNotIn (ty td : TE) : TE := fun σ H Q => ty σ H fun y H1 => td σ H1 fun x H2 => ∃ a o, x = .ref a ∧ DGet H2 a y o ∧ Q (.bl (!o.isSome)) H2
def sDPut (td ty tv : TE) : TS := fun D σ H => tv σ H fun v H1 => td σ H1 fun x H2 => ty σ H2 fun y H3 => ∃ a H4, x = .ref a ∧ DPut H3 a y v H4 ∧ D.nx σ H4
section
variable {X : Cx} {o i e value : Expr} {pos pos' tpos : Pos} {td ty tv : TE}
theorem pe_dget (hu : X.A.units + 1 < cLine) (ho : PE X o td) (hi : PE X i ty) (hs : NoSl i) : PE X (.Subscript o i pos) (tDGet td ty) := by
  intro pins s σ H Q I h
  refine subD_of PySem.F.slot_dict_getitem.lookup hs (thn (ho pins s σ H _ I h) fun u s1 ⟨x, H1, I1, rx, q1⟩ => thn (hi pins s1 σ H1 _ I1 q1) fun iv s2 ⟨y, H2, I2, ry, a, v, ex, g, q2⟩ => ?_)
  subst ex
  obtain rfl : u = Value.ref a := rx
  exact ⟨dict_typeIs I2 g, d_getItem hu I2 g ry fun w' s3 I3 rw' => ⟨v, H2, I3, rw', q2⟩⟩
theorem pc_dnotin (hu : X.A.units + 1 < cLine) (hi : PE X i ty) (ho : PE X o td) : PC X .NotIn i o (tDNotIn ty td) := by
  intro pins s σ H Q I h
  refine thn (hi pins s σ H _ I h) fun iv s1 ⟨y, H1, I1, ry, q1⟩ => thn (ho pins s1 σ H1 _ I1 q1) fun u s2 ⟨x, H2, I2, rx, a, ov, ex, g, q2⟩ => ?_
  subst ex
  obtain rfl : u = Value.ref a := rx
  exact d_notIn hu I2 g ry fun s3 I3 => ⟨.bl (!ov.isSome), H2, I3, rfl, q2⟩
theorem ps_dput (hu : X.A.units + 1 < cLine) (ho : PE X o td) (hi : PE X i ty) (hv : PE X value tv) (hs : swapsWith value (some (.Subscript o i pos')) pos.line X.env = pure false) :
    PS X (.Assign [.Subscript o i pos'] value pos) (sDPut td ty tv) := by
  intro pins s σ H D I h
  refine wpAny_Assign_Subscript (thn (hv pins s σ H _ I h) fun r s1 ⟨v, H1, I1, rv, q1⟩ => thn (ho pins s1 σ H1 _ I1 q1) fun u s2 ⟨x, H2, I2, rx, q2⟩ => thn (hi pins s2 σ H2 _ I2 q2) fun iv s3 ⟨y, H3, I3, ry, a, H4, ex, g, q3⟩ => ?_) hs
  subst ex
  obtain rfl : u = Value.ref a := rx
  exact d_setItem hu I3 g ry rv fun s4 I4 => ⟨σ, H4, I4, q3⟩
end


/-! ### displays -/
theorem dk_empty {P : Program} {w : World} {H : Hp} (h : Heap) (hb : sysModules < h.objs.size) : ObjOk P w H (h.push { cls := .type "dict", data := .dict #[] }) h.objs.size (.dK []) :=
  ⟨Nat.zero_le _, beq_eq_false_iff_ne.mpr (Ne.symm (Nat.ne_of_lt hb)), [], .nil, Heap.DictOf.new h⟩
theorem dt_empty {P : Program} {w : World} {H : Hp} (h : Heap) (hb : sysModules < h.objs.size) : ObjOk P w H (h.push { cls := .type "dict", data := .dict #[] }) h.objs.size (.dT []) :=
  ⟨Nat.zero_le _, beq_eq_false_iff_ne.mpr (Ne.symm (Nat.ne_of_lt hb)), [], .nil, _, #[], 0, Heap.get?_push_size _ rfl, ⟨rfl, rfl, rfl⟩, rfl, rfl, List.nodup_nil⟩
def tDNewK : TE := fun _ H Q => ∀ p, H p = none → Q (.ref p) (upd H p (.dK []))
def tDNewT : TE := fun _ H Q => ∀ p, H p = none → Q (.ref p) (upd H p (.dT []))
section
variable {X : Cx} {pos : Pos}
theorem pe_dnewK : PE X (.Dict [] [] pos) tDNewK := fun pins s σ H Q I h =>
  wpAny_Dict_empty ⟨.ref s.heap.objs.size, _, I.laid (a := s.heap.objs.size) (o := .dK []) (t' := s.toks) (fun _ _ q => Heap.get?_push_of_some _ q) (Nat.le_refl _) (dk_empty s.heap I.big), rfl, h _ (I.hok.fresh (Nat.le_refl _))⟩
theorem pe_dnewT : PE X (.Dict [] [] pos) tDNewT := fun pins s σ H Q I h =>
  wpAny_Dict_empty ⟨.ref s.heap.objs.size, _, I.laid (a := s.heap.objs.size) (o := .dT []) (t' := s.toks) (fun _ _ q => Heap.get?_push_of_some _ q) (Nat.le_refl _) (dt_empty s.heap I.big), rfl, h _ (I.hok.fresh (Nat.le_refl _))⟩
end

def tPairs : List (TE × TE) → St → Hp → (List (V × V) → Hp → Prop) → Prop
  | [], _, H, Q => Q [] H
  | (tk, tv) :: r, σ, H, Q => tk σ H fun x H1 => tv σ H1 fun y H2 => tPairs r σ H2 fun ps H3 => Q ((x, y) :: ps) H3
/-! ### methods -/
section
variable {X : Cx} {pins : List (Addr × Obj)} {σ : St} {H : Hp} {s : Shared} {a : Addr} {y d : V} {u r : Value} {o : Option V} {A : Around} {E : Value → Shared → Prop}
theorem d_get2 {Q : Value → Shared → Prop} (hu : A.units + 1 < cLine) (I : Inv X pins σ H s) (g : DGet H a y o) (ry : RelV y u) (rd : RelV d r) (h : ∀ w' s', Inv X pins σ H s' → RelV (o.getD d) w' → Q w' s') :
    wpAny (model X.prog X.w) A (call (.builtin "dict.get") [.ref a, u, r]) Q E s := by
  rcases g with ⟨kvs, k, e, ey, l⟩ | ⟨kvs, k, b, e, ey, eb, l⟩
  · subst ey
    obtain ⟨z, hd, vs, rel, dd⟩ := dk_rd I.hok e
    refine call_meetsIn PySem.F.slot_dict_get dd.typeIs PySem.F.entry_dict_get (PySem.F.args_dict_get_3 _ _ _) (meets_dict_get_default (mixKind X.prog X.w) a (kV_is ry) hd r) ⟨_, dd.mapOf, h _ _ (I.tok _) ?_⟩
    rw [l]
    exact (rel.val k).getD rd
  · subst ey
    cases (show u = Value.ref b from ry)
    obtain ⟨z, hd, xs, rel, dd⟩ := dt_rd I.hok e
    refine call_meetsIn PySem.F.slot_dict_get dd.typeIs PySem.F.entry_dict_get (PySem.F.args_dict_get_3 _ _ _) (meetsH_dict_get_default (tupleKind (mixKind X.prog X.w)) a b hd r) ⟨tupleKind_room_in1 hu, k, xs, key_of I.hok eb, dd, h _ _ (I.tok _) ?_⟩
    rw [l]
    exact (rel.val k).getD rd
end

section
variable {X : Cx} {o e f : Expr} {apos cpos : Pos} {td ty tx : TE}
end

/-! ### dict(d): a copy -/
section
variable {X : Cx} {pins : List (Addr × Obj)} {σ : St} {H : Hp} {s : Shared} {a : Addr} {kvs : List (Key × V)} {A : Around} {E : Value → Shared → Prop}
end


section
variable {X : Cx} {pins : List (Addr × Obj)} {σ : St} {H : Hp} {s : Shared} {a : Addr} {y : V} {u : Value} {A : Around} {E : Value → Shared → Prop}
end
section
variable {X : Cx}
end
/-! ### a dict's pairs: keys that differ -/
section
variable {κ : Type} [DecidableEq κ]
end
end L2


/-! Own additions to the hand layer: slices of texts, unpacking a list, isinstance, calls by a bundle. -/
namespace L3
open PySem PySem.Spec PyProof.Rows L2
theorem bt_len : bootBuiltins "len" = some (.builtin "len") := by decide +kernel
theorem bt_min : bootBuiltins "min" = some (.builtin "min") := by decide +kernel
theorem bt_max : bootBuiltins "max" = some (.builtin "max") := by decide +kernel
theorem bt_isinstance : bootBuiltins "isinstance" = some (.builtin "isinstance") := by decide +kernel
theorem bt_int : bootBuiltins "int" = some (.type "int") := by decide +kernel
theorem bt_str : bootBuiltins "str" = some (.type "str") := by decide +kernel
theorem bt_list : bootBuiltins "list" = some (.type "list") := by decide +kernel
/-! ### texts as lists of codes -/
abbrev cl (z : Str) : List Nat := z.cps.toList
theorem str_ext {a b : Str} (h : cl a = cl b) : a = b := by
  cases a; cases b; congr 1; exact Array.ext' h
theorem cl_append (a b : Str) : cl (a ++ b) = cl a ++ cl b := by
  show (a.cps ++ b.cps).toList = _
  rw [Array.toList_append]
theorem cl_length (a : Str) : (cl a).length = a.length := by
  show a.cps.toList.length = a.cps.size
  rw [Array.length_toList]
section
variable {X : Cx}
def rSlS : V → Option Int → Option Int → Hp → VK → Prop := fun x lo hi H Q => ∃ z, x = .str z ∧ z.length ≤ sizeLine ∧ Q (.str (Txt.slice z lo hi)) H
theorem part_of {v : Value} {o : Option Int} (p : IsPart v o) : ∃ l : Option (Int × Tok), v = partValue l ∧ l.map (·.1) = o := by
  cases p with
  | none => exact ⟨none, rfl, rfl⟩
  | int i t => exact ⟨some (i, t), rfl, rfl⟩
theorem sl_str : SlR X rSlS := by
  intro pins s σ H x v vl vu lo hi sl Q I rx hs pl pu h
  obtain ⟨z, rfl, hz, q⟩ := h
  obtain ⟨t, rfl⟩ := rx
  obtain ⟨l, rfl, rfl⟩ := part_of pl
  obtain ⟨u, rfl, rfl⟩ := part_of pu
  refine ⟨"str", _, PySem.F.slot_str_getitem.lookup, typeIs_str _ _ _, ?_⟩
  refine wpAny_getItem_str_slice (l := l) (u := u) (st := none) hs rfl ?_
  refine post_val_or_str ⟨Nat.le_trans (Txt.slice_le z _ _) hz, fun t' k => ?_⟩
  exact ⟨.str (Txt.slice z (l.map (·.1)) (u.map (·.1))), H, I.tok _, ⟨_, rfl⟩, q⟩

theorem pe_ty {x : Str} {T : String} {pos : Pos} (hg : Gl X x) (hm : X.mg x = none) (hv : bootBuiltins x = some (.type T)) (hn : x ≠ "__name__" := by decide) (hdb : (x == ("__debug__" : Str)) = false := by decide) :
    PE X (.Name x pos) (tC (.ty T)) := pe_bltn (v := .ty T) hg hm hv rfl hn hdb
theorem call_isinst : CallR X (.builtin "isinstance") (fun xs H Q => ∃ x T t b, xs = [x, .ty T] ∧ TyOf X.K H x t ∧ PySem.W.kitOne X.K t (.type T) = some b ∧ Q (.bl b) H) := by
  intro pins s σ H xs us Q I r h
  obtain ⟨x, T, t, b, rfl, ty, e, q⟩ := h
  obtain ⟨u, w', rfl, rx, rt⟩ := vals2 r
  cases rt
  exact isinst_ok I rx ty e fun tk => ⟨.bl b, H, I.tok _, rfl, q⟩
theorem is_str {K : PySem.W.Frag} : PySem.W.kitOne K (.type "str") (.type "str") = some true := rfl
/-! ### an own def as a caller sees it -/
def Cal (P : Program) (w : World) (K : PySem.W.Frag) (mg : Str → Option Value) (base : Heap) (x : Str) (ps : List Str) (k : Nat) (sp : Sp) : Prop :=
  ∃ f fd, FnOk P w K mg base CX0 k f fd ps sp ∧ Binds K fd ps [] ∧ PySem.W.keepIn K (.ref f) = true ∧ mg x = some (.ref f)
def tFn (sp : Sp) (t : TA) : TE := fun σ H Q => t σ H fun vs H1 => sp vs H1 Q E0
theorem pe_fn {x : Str} {ps : List Str} {k k' : Nat} {sp : Sp} {p pos : Pos} {e : Expr} {es : List Expr} {t : TA} (C : Cal X.prog X.w X.K X.mg X.base x ps k sp) (hr : Room k' X.A) (hk : k ≤ k') (hg : Gl X x)
    (ha : PA X (e :: es) t) (hdb : (x == ("__debug__" : Str)) = false := by decide) (he : starEach (e :: es) X.env = (false, eval e X.env) :: starEach es X.env := by rfl) (hpl : (backTo pos (starEach es X.env)).any (·.1) = false := by rfl) :
    PE X (.Call (.Name x p) (e :: es) [] pos) (tFn sp t) := by
  obtain ⟨f, fd, F, b, kp, hm⟩ := C
  intro pins s σ H Q I h
  refine wpAny_Call_Name_kw (ld_glob I hg hm ?_ hdb)
  refine PySem.W.callWith_K (h₀ := X.base) I.ok.mod.kin kp (thn (ha pos pins s σ H _ I h) fun us s1 ⟨vs, H1, I1, r, q⟩ => ⟨I1.kIn, ?_⟩) he hpl
  exact run_fn (dvs := []) F (hr.mono hk) b .nil pass0 I1 r (by rw [List.append_nil]; exact q)
end
/-! ### a cut: what holds behind a statement, a value that is forgotten but for a word -/
section
variable {X : Cx}
def tMid (t u : TS) : TS := fun D σ H => ∃ M : L2.St → Hp → Prop, t { D with nx := M } σ H ∧ ∀ σ' H', M σ' H' → u D σ' H'
theorem pss_mid {st : Stmt} {rest : List Stmt} {t u : TS} (h1 : PS X st t) (h2 : PSs X rest u) : PSs X (st :: rest) (tMid t u) := by
  intro pins s σ H D I h
  obtain ⟨M, ht, hu⟩ := h
  refine wpAny_execs_cons (thn (h1 pins s σ H { D with nx := M } I ht) fun f s1 q => ?_)
  cases f with
  | next =>
    obtain ⟨σ', H', I', q⟩ := q
    exact h2 pins s1 σ' H' D I' (hu σ' H' q)
  | ret v => exact q
  | brk => exact q
  | cont => exact q
def tAbs (t : TE) : TE := fun σ H Q => ∃ P : V → Hp → Prop, t σ H P ∧ ∀ v H', P v H' → Q v H'
theorem pe_abs {e : Expr} {t : TE} (h : PE X e t) : PE X e (tAbs t) := by
  intro pins s σ H Q I hw
  obtain ⟨P, ht, hq⟩ := hw
  exact thn (h pins s σ H P I ht) fun u s1 ⟨v, H1, I1, r1, q1⟩ => ⟨v, H1, I1, r1, hq v H1 q1⟩
def tAbsT (t : TT) : TT := fun σ H Q => ∃ P : Bool → Hp → Prop, t σ H P ∧ ∀ v H', P v H' → Q v H'
theorem pt_abs {e : Expr} {t : TT} (h : PT X e t) : PT X e (tAbsT t) := by
  intro pins s σ H Q I hw
  obtain ⟨P, ht, hq⟩ := hw
  exact thn (h pins s σ H P I ht) fun u s1 ⟨H1, I1, q1⟩ => ⟨H1, I1, hq u H1 q1⟩
def rPick (K : PySem.W.Frag) : R2 := fun x y H Q => ∃ p xs i, x = .ref p ∧ y = .int i ∧ SqL K H p xs ∧ 0 ≤ i ∧ i < xs.length ∧ ∃ W : V → Prop, (∀ v ∈ xs, W v) ∧ ∀ v, W v → Q v H
theorem ix_pick : IxR X (rPick X.K) := by
  intro value slice pins s σ H x y v u Q I rx ry h hs
  obtain ⟨p, xs, i, rfl, rfl, hq, h0, h1, W, hW, q⟩ := h
  obtain ⟨n, rfl⟩ := Int.eq_ofNat_of_zero_le h0
  have hn : n < xs.length := by omega
  exact ix_list value slice pins s σ H _ _ v u Q I rx ry ⟨p, xs, _, xs[n], rfl, rfl, hq, atI_nat (by rw [List.getElem?_eq_getElem hn]), q _ (hW _ (List.getElem_mem hn))⟩ hs
end
theorem pz {j : Int} (h : decide (0 < j) = true := by decide) : 0 < j := of_decide_eq_true h
theorem iteD {c A B : Prop} [Decidable c] (hc : ¬ c) (h : B) : if decide c = true then A else B := by
  rw [decide_eq_false hc]
  exact iteF h
theorem iteDT {c A B : Prop} [Decidable c] (hc : c) (h : A) : if decide c = true then A else B := by
  rw [decide_eq_true hc]
  exact iteT h
theorem iteDd {c A B : Prop} [Decidable c] (h1 : c → A) (h2 : ¬ c → B) : if decide c = true then A else B := by
  by_cases h : c
  · exact iteDT h (h1 h)
  · exact iteD h (h2 h)
theorem iteNd {c A B : Prop} [Decidable c] (h1 : ¬ c → A) (h2 : c → B) : if (!decide c) = true then A else B := by
  by_cases h : c
  · rw [decide_eq_true h]; exact iteF (h2 h)
  · rw [decide_eq_false h]; exact iteT (h1 h)
theorem same_new {H : Hp} {p : Addr} (h : H p = none) (o : HO) : Same H (upd H p o) := fun b u q => by rw [upd_ne (ne_of_none q h)]; exact q
theorem at_mem {α : Type} {xs : List α} {i : Int} (h0 : 0 ≤ i) (h1 : i < xs.length) : ∃ v, atI xs i = some v ∧ v ∈ xs := by
  obtain ⟨n, rfl⟩ := Int.eq_ofNat_of_zero_le h0
  have hn : n < xs.length := by omega
  exact ⟨xs[n], atI_nat (by rw [List.getElem?_eq_getElem hn]), List.getElem_mem hn⟩
theorem at_some {α : Type} {xs : List α} {i : Int} (h0 : 0 ≤ i) (h1 : i < xs.length) : ∃ v, atI xs i = some v ∧ xs[i.toNat]? = some v := by
  obtain ⟨n, rfl⟩ := Int.eq_ofNat_of_zero_le h0
  have hn : n < xs.length := by omega
  exact ⟨xs[n], atI_nat (by rw [List.getElem?_eq_getElem hn]), by simp [hn]⟩
theorem szl {n : Nat} (h : n ≤ 100000) : n ≤ sizeLine := Nat.le_trans h (by rw [sizeLine_eq]; decide)
end L3

/-! Deep data: what a value stands for (numbers, texts, tuples and lists within one another), and == and in over it. -/
namespace L3
open PySem PySem.Spec PyProof.Rows L2 PySem.SeqAt

inductive D where
  | non | bl (b : Bool) | int (i : Int) | str (x : Str) | tup (xs : List D) | lst (xs : List D)

mutual
def Rep (K : PySem.W.Frag) (H : Hp) : D → V → Prop
  | .non, v => v = .non
  | .bl b, v => v = .bl b
  | .int i, v => v = .int i
  | .str x, v => v = .str x
  | .tup ds, v => ∃ a xs, v = .ref a ∧ SqT K H a xs ∧ Reps K H ds xs
  | .lst ds, v => ∃ a xs, v = .ref a ∧ SqL K H a xs ∧ Reps K H ds xs
def Reps (K : PySem.W.Frag) (H : Hp) : List D → List V → Prop
  | [], vs => vs = []
  | d :: ds, vs => ∃ v r, vs = v :: r ∧ Rep K H d v ∧ Reps K H ds r
end
theorem Same.seqT {K : PySem.W.Frag} {H H' : Hp} {a : Addr} {xs : List V} (e : Same H H') (h : SqT K H a xs) : SqT K H' a xs := by
  rcases h with (h | ⟨o, h⟩) | h
  · exact .inl (.inl (e _ _ h))
  · exact .inl (.inr ⟨o, e _ _ h⟩)
  · exact .inr h
mutual
theorem Rep.mono {K : PySem.W.Frag} {H H' : Hp} (g : Same H H') : ∀ (d : D) (v : V), Rep K H d v → Rep K H' d v
  | .non, _, h => by unfold Rep at h ⊢; exact h
  | .bl _, _, h => by unfold Rep at h ⊢; exact h
  | .int _, _, h => by unfold Rep at h ⊢; exact h
  | .str _, _, h => by unfold Rep at h ⊢; exact h
  | .tup ds, _, h => by
    unfold Rep at h ⊢
    obtain ⟨a, xs, e, q, r⟩ := h
    exact ⟨a, xs, e, Same.seqT g q, Reps.mono g ds xs r⟩
  | .lst ds, _, h => by
    unfold Rep at h ⊢
    obtain ⟨a, xs, e, q, r⟩ := h
    exact ⟨a, xs, e, g.seq q, Reps.mono g ds xs r⟩
theorem Reps.mono {K : PySem.W.Frag} {H H' : Hp} (g : Same H H') : ∀ (ds : List D) (vs : List V), Reps K H ds vs → Reps K H' ds vs
  | [], _, h => by unfold Reps at h ⊢; exact h
  | d :: ds, _, h => by
    unfold Reps at h ⊢
    obtain ⟨v, r, e, q, t⟩ := h
    exact ⟨v, r, e, Rep.mono g d v q, Reps.mono g ds r t⟩
end
theorem Reps.nil {K : PySem.W.Frag} {H : Hp} : Reps K H [] [] := by unfold Reps; rfl
theorem Reps.cons {K : PySem.W.Frag} {H : Hp} {d : D} {v : V} {ds : List D} {vs : List V} (h : Rep K H d v) (t : Reps K H ds vs) : Reps K H (d :: ds) (v :: vs) := by
  unfold Reps; exact ⟨v, vs, rfl, h, t⟩
theorem Reps.inv {K : PySem.W.Frag} {H : Hp} {d : D} {ds : List D} {vs : List V} (h : Reps K H (d :: ds) vs) : ∃ v r, vs = v :: r ∧ Rep K H d v ∧ Reps K H ds r := by
  unfold Reps at h; exact h
theorem Reps.inv0 {K : PySem.W.Frag} {H : Hp} {vs : List V} (h : Reps K H [] vs) : vs = [] := by
  unfold Reps at h; exact h
theorem Reps.length {K : PySem.W.Frag} {H : Hp} : ∀ {ds : List D} {vs : List V}, Reps K H ds vs → ds.length = vs.length
  | [], _, h => by rw [h.inv0]; rfl
  | d :: ds, _, h => by
    obtain ⟨v, r, rfl, _, t⟩ := h.inv
    rw [List.length_cons, List.length_cons, Reps.length t]
theorem Reps.map {K : PySem.W.Frag} {H : Hp} {α : Type} (f : α → D) (g : α → V) (h : ∀ x, Rep K H (f x) (g x)) : ∀ xs : List α, Reps K H (xs.map f) (xs.map g)
  | [] => .nil
  | x :: xs => .cons (h x) (Reps.map f g h xs)

/-! ### Python's == -/
mutual
def eqD : D → D → Bool
  | .non, .non => true
  | .bl a, .bl b => a == b
  | .bl a, .int b => (if a then 1 else 0) == b
  | .int a, .bl b => a == (if b then 1 else 0)
  | .int a, .int b => a == b
  | .str a, .str b => a == b
  | .tup xs, .tup ys => eqDs xs ys
  | .lst xs, .lst ys => eqDs xs ys
  | _, _ => false
def eqDs : List D → List D → Bool
  | [], [] => true
  | x :: xs, y :: ys => eqD x y && eqDs xs ys
  | _, _ => false
end
mutual
def deep : D → Nat
  | .tup xs => deeps xs + 1
  | .lst xs => deeps xs + 1
  | _ => 0
def deeps : List D → Nat
  | [] => 0
  | x :: xs => max (deep x) (deeps xs)
end
mutual
theorem eqD_refl : ∀ d : D, eqD d d = true
  | .non => by simp [eqD]
  | .bl b => by simp [eqD]
  | .int i => by simp [eqD]
  | .str x => by simp [eqD]
  | .tup xs => by rw [eqD]; exact eqDs_refl xs
  | .lst xs => by rw [eqD]; exact eqDs_refl xs
theorem eqDs_refl : ∀ xs : List D, eqDs xs xs = true
  | [] => by simp [eqDs]
  | x :: xs => by rw [eqDs, eqD_refl x, eqDs_refl xs]; rfl
end
/-! no truths within -/
mutual
def noB : D → Bool
  | .bl _ => false
  | .tup xs => noBs xs
  | .lst xs => noBs xs
  | _ => true
def noBs : List D → Bool
  | [] => true
  | x :: xs => noB x && noBs xs
end
mutual
theorem eqD_eq : ∀ d e : D, noB d = true → noB e = true → eqD d e = true → d = e
  | .non, e, _, h2, h => by cases e <;> simp_all [eqD]
  | .bl b, e, h1, _, _ => by simp [noB] at h1
  | .int i, e, _, h2, h => by cases e <;> simp_all [eqD, noB]
  | .str x, e, _, h2, h => by cases e <;> simp_all [eqD]
  | .tup xs, e, h1, h2, h => by
    cases e <;> simp only [eqD, noB, Bool.false_eq_true] at h1 h2 h
    rw [eqDs_eq _ _ h1 h2 h]
  | .lst xs, e, h1, h2, h => by
    cases e <;> simp only [eqD, noB, Bool.false_eq_true] at h1 h2 h
    rw [eqDs_eq _ _ h1 h2 h]
theorem eqDs_eq : ∀ xs ys : List D, noBs xs = true → noBs ys = true → eqDs xs ys = true → xs = ys
  | [], ys, _, _, h => by cases ys <;> simp_all [eqDs]
  | x :: xs, ys, h1, h2, h => by
    cases ys with
    | nil => simp [eqDs] at h
    | cons y ys =>
      simp only [eqDs, noBs, Bool.and_eq_true] at h1 h2 h
      rw [eqD_eq x y h1.1 h2.1 h.1, eqDs_eq xs ys h1.2 h2.2 h.2]
end
def pickEq (xs ys : List D) (j : Nat) : Bool := match xs[j]?, ys[j]? with
  | some x, some y => eqD x y
  | _, _ => false
theorem eqDs_all : ∀ xs ys : List D, eqDs xs ys = ((List.range (min xs.length ys.length)).all (pickEq xs ys) && (xs.length == ys.length))
  | [], [] => by simp [eqDs]
  | [], y :: ys => by simp [eqDs]
  | x :: xs, [] => by simp [eqDs]
  | x :: xs, y :: ys => by
    have ih := eqDs_all xs ys
    have e : min (x :: xs).length (y :: ys).length = min xs.length ys.length + 1 := by simp only [List.length_cons]; omega
    have p : pickEq (x :: xs) (y :: ys) ∘ Nat.succ = pickEq xs ys := by
      funext j; simp [pickEq]
    rw [eqDs, e, List.range_succ_eq_map, List.all_cons, List.all_map, p, ih]
    have q : pickEq (x :: xs) (y :: ys) 0 = eqD x y := by simp [pickEq]
    have l : ((x :: xs).length == (y :: ys).length) = (xs.length == ys.length) := by
      simp only [List.length_cons]
      by_cases h : xs.length = ys.length <;> simp [h]
    rw [q, l, Bool.and_assoc]

section
variable {X : Cx} {pins : List (Addr × Obj)} {σ : L2.St} {H : Hp} {s : Shared}
/-! a value stands for one datum -/
mutual
theorem Rep.inj (I : Inv X pins σ H s) : ∀ (d e : D) (v : V), Rep X.K H d v → Rep X.K H e v → d = e
  | .non, e, v, h, k => by unfold Rep at h; subst h; cases e <;> simp [Rep] at k <;> rfl
  | .bl b, e, v, h, k => by unfold Rep at h; subst h; cases e <;> simp [Rep] at k; rw [k]
  | .int i, e, v, h, k => by unfold Rep at h; subst h; cases e <;> simp [Rep] at k; rw [k]
  | .str x, e, v, h, k => by unfold Rep at h; subst h; cases e <;> simp [Rep] at k; rw [k]
  | .tup ds, e, v, h, k => by
    unfold Rep at h
    obtain ⟨a, xs, rfl, q, r⟩ := h
    cases e with
    | tup es =>
      unfold Rep at k
      obtain ⟨b, ys, e1, q2, r2⟩ := k
      cases e1
      have := I.tuple_inj q q2
      subst this
      rw [Reps.inj I ds es xs r r2]
    | lst es =>
      unfold Rep at k
      obtain ⟨b, ys, e1, q2, r2⟩ := k
      cases e1
      obtain ⟨i1, _, t1, _⟩ := I.tuple q
      obtain ⟨i2, _, t2, _⟩ := I.list q2
      exact absurd rfl (ne_of_list_tuple t2.isList (let ⟨o, h1, h2, n, h3⟩ := t1; ⟨o, h1, h2, n, h3⟩))
    | _ => simp [Rep] at k
  | .lst ds, e, v, h, k => by
    unfold Rep at h
    obtain ⟨a, xs, rfl, q, r⟩ := h
    cases e with
    | lst es =>
      unfold Rep at k
      obtain ⟨b, ys, e1, q2, r2⟩ := k
      cases e1
      have := I.list_inj q q2
      subst this
      rw [Reps.inj I ds es xs r r2]
    | tup es =>
      unfold Rep at k
      obtain ⟨b, ys, e1, q2, r2⟩ := k
      cases e1
      obtain ⟨i1, _, t1, _⟩ := I.tuple q2
      obtain ⟨i2, _, t2, _⟩ := I.list q
      exact absurd rfl (ne_of_list_tuple t2.isList (let ⟨o, h1, h2, n, h3⟩ := t1; ⟨o, h1, h2, n, h3⟩))
    | _ => simp [Rep] at k
theorem Reps.inj (I : Inv X pins σ H s) : ∀ (ds es : List D) (vs : List V), Reps X.K H ds vs → Reps X.K H es vs → ds = es
  | [], es, vs, h, k => by
    rw [h.inv0] at k
    cases es with
    | nil => rfl
    | cons e es => obtain ⟨_, _, z, _⟩ := k.inv; cases z
  | d :: ds, es, vs, h, k => by
    obtain ⟨v, r, rfl, q, t⟩ := h.inv
    cases es with
    | nil => have z := k.inv0; cases z
    | cons e es =>
      obtain ⟨_, _, z, q2, t2⟩ := k.inv
      cases z
      rw [Rep.inj I d e v q q2, Reps.inj I ds es r t t2]
end
end
end L3

/-! == and != and in over deep data. -/
namespace L3
open PySem PySem.Spec PyProof.Rows L2 PySem.SeqAt
section
variable {X : Cx} {pins : List (Addr × Obj)} {σ : L2.St} {H : Hp} {s : Shared} {A : Around}
theorem in1_units (A : Around) : A.in1.units = A.units + 1 := rfl
abbrev Elts (A : Around) (s : Shared) (xs ys : List V) (ds es : List D) : Prop :=
  ∀ us ws, Vals xs us → Vals ys ws → ∀ (j : Nat) v u, us[j]? = some v → ws[j]? = some u → EqAt A s v u (pickEq ds es j)
theorem rc_tup {a b : Addr} {xs ys : List V} {ds es : List D} (I : Inv X pins σ H s) (q : SqT X.K H a xs) (r : Reps X.K H ds xs) (q2 : SqT X.K H b ys) (r2 : Reps X.K H es ys) (hu : A.units < cLine) (he : Elts A.in1 s xs ys ds es) :
    RcAt A s (.ref a) (.ref b) (eqDs ds es) ∧ RcNeAt A s (.ref a) (.ref b) (!eqDs ds es) := by
  obtain ⟨us, rv, t1, _⟩ := I.tuple q
  obtain ⟨ws, rw', t2, _⟩ := I.tuple q2
  have l1 : us.toArray.size = ds.length := by rw [List.size_toArray, ← rv.length, r.length]
  have l2 : ws.toArray.size = es.length := by rw [List.size_toArray, ← rw'.length, r2.length]
  have el : ∀ j (h1 : j < us.toArray.size) (h2 : j < ws.toArray.size), EqAt A.in1 s us.toArray[j] ws.toArray[j] (pickEq ds es j) := fun j h1 h2 =>
    he us ws rv rw' j _ _ (by simp at h1 ⊢) (by simp at h2 ⊢)
  have e := RcAt.tuples (A := A) (s := s) (l := a) (b := b) t1 t2 hu el
  have n := RcNeAt.tuples (A := A) (s := s) (l := a) (b := b) t1 t2 hu el
  rw [l1, l2, ← eqDs_all] at e n
  exact ⟨e, n⟩
theorem rc_lst {a b : Addr} {xs ys : List V} {ds es : List D} (I : Inv X pins σ H s) (q : SqL X.K H a xs) (r : Reps X.K H ds xs) (q2 : SqL X.K H b ys) (r2 : Reps X.K H es ys) (hu : A.units < cLine) (he : Elts A.in1 s xs ys ds es) :
    RcAt A s (.ref a) (.ref b) (eqDs ds es) ∧ RcNeAt A s (.ref a) (.ref b) (!eqDs ds es) := by
  obtain ⟨us, rv, t1, _⟩ := I.list q
  obtain ⟨ws, rw', t2, _⟩ := I.list q2
  have l1 : us.toArray.size = ds.length := by rw [List.size_toArray, ← rv.length, r.length]
  have l2 : ws.toArray.size = es.length := by rw [List.size_toArray, ← rw'.length, r2.length]
  have el : ∀ j (h1 : j < us.toArray.size) (h2 : j < ws.toArray.size), EqAt A.in1 s us.toArray[j] ws.toArray[j] (pickEq ds es j) := fun j h1 h2 =>
    he us ws rv rw' j _ _ (by simp at h1 ⊢) (by simp at h2 ⊢)
  by_cases hl : ds.length = es.length
  · have e := RcAt.lists (A := A) (s := s) (l := a) (b := b) t1.isList t2.isList (by omega) hu el
    have n := RcNeAt.lists (A := A) (s := s) (l := a) (b := b) t1.isList t2.isList (by omega) hu el
    have z : eqDs ds es = (List.range ds.length).all (pickEq ds es) := by
      rw [eqDs_all, hl]; simp
    rw [l1, ← z] at e n
    exact ⟨e, n⟩
  · have hs : (us.toArray.size != ws.toArray.size) = true := by rw [l1, l2]; simpa using hl
    have e := RcAt.lists_lengths (A := A) (s := s) (l := a) (b := b) t1.isList t2.isList hs hu
    have n := RcNeAt.lists_lengths (A := A) (s := s) (l := a) (b := b) t1.isList t2.isList hs hu
    have z : eqDs ds es = false := by
      rw [eqDs_all]; simp [hl]
    rw [z]
    exact ⟨e, n⟩
mutual
theorem eqAtD (I : Inv X pins σ H s) : ∀ (d e : D) (A : Around) (v u : V) (v' u' : Value), Rep X.K H d v → Rep X.K H e u → RelV v v' → RelV u u' → A.units + deep d < cLine → EqAt A s v' u' (eqD d e)
  | .non, e, A, v, u, v', u', hd, he, rv, ru, hu => by
    unfold Rep at hd; subst hd; cases rv
    cases e <;> unfold Rep at he
    · subst he; cases ru; exact EqAt.same _
    · subst he; cases ru; exact EqAt.none_bool _
    · subst he; obtain ⟨t, rfl⟩ := ru; exact EqAt.none_int _ _
    · subst he; obtain ⟨t, rfl⟩ := ru; exact EqAt.none_str _ _
    · obtain ⟨a, xs, rfl, q, _⟩ := he; cases ru; obtain ⟨_, _, t, _⟩ := I.tuple q; exact EqAt.none_tuple t (by omega)
    · obtain ⟨a, xs, rfl, q, _⟩ := he; cases ru; obtain ⟨_, _, t, _⟩ := I.list q; exact EqAt.none_list t.isList (by omega)
  | .bl b, e, A, v, u, v', u', hd, he, rv, ru, hu => by
    unfold Rep at hd; subst hd; cases rv
    cases e <;> unfold Rep at he
    · subst he; cases ru; exact EqAt.bool_none _
    · subst he; cases ru; exact EqAt.bool_bool _ _
    · subst he; obtain ⟨t, rfl⟩ := ru; exact EqAt.bool_int _ _ _
    · subst he; obtain ⟨t, rfl⟩ := ru; exact EqAt.bool_str _ _ _
    · obtain ⟨a, xs, rfl, q, _⟩ := he; cases ru; obtain ⟨_, _, t, _⟩ := I.tuple q; exact EqAt.bool_tuple _ t (by omega)
    · obtain ⟨a, xs, rfl, q, _⟩ := he; cases ru; obtain ⟨_, _, t, _⟩ := I.list q; exact EqAt.bool_list _ t.isList (by omega)
  | .int i, e, A, v, u, v', u', hd, he, rv, ru, hu => by
    unfold Rep at hd; subst hd; obtain ⟨t0, rfl⟩ := rv
    cases e <;> unfold Rep at he
    · subst he; cases ru; exact EqAt.int_none _ _
    · subst he; cases ru; exact EqAt.int_bool _ _ _
    · subst he; obtain ⟨t, rfl⟩ := ru; exact EqAt.int_int _ _ _ _
    · subst he; obtain ⟨t, rfl⟩ := ru; exact EqAt.int_str _ _ _ _
    · obtain ⟨a, xs, rfl, q, _⟩ := he; cases ru; obtain ⟨_, _, t, _⟩ := I.tuple q; exact EqAt.int_tuple _ _ t (by omega)
    · obtain ⟨a, xs, rfl, q, _⟩ := he; cases ru; obtain ⟨_, _, t, _⟩ := I.list q; exact EqAt.int_list _ _ t.isList (by omega)
  | .str x, e, A, v, u, v', u', hd, he, rv, ru, hu => by
    unfold Rep at hd; subst hd; obtain ⟨t0, rfl⟩ := rv
    cases e <;> unfold Rep at he
    · subst he; cases ru; exact EqAt.str_none _ _
    · subst he; cases ru; exact EqAt.str_bool _ _ _
    · subst he; obtain ⟨t, rfl⟩ := ru; exact EqAt.str_int _ _ _ _
    · subst he; obtain ⟨t, rfl⟩ := ru; exact EqAt.str_str _ _ _ _
    · obtain ⟨a, xs, rfl, q, _⟩ := he; cases ru; obtain ⟨_, _, t, _⟩ := I.tuple q; exact EqAt.str_tuple _ _ t (by omega)
    · obtain ⟨a, xs, rfl, q, _⟩ := he; cases ru; obtain ⟨_, _, t, _⟩ := I.list q; exact EqAt.str_list _ _ t.isList (by omega)
  | .tup ds, e, A, v, u, v', u', hd, he, rv, ru, hu => by
    have hd0 := hd
    have he0 := he
    unfold Rep at hd
    obtain ⟨a, xs, rfl, q, r⟩ := hd
    cases rv
    rw [deep] at hu
    obtain ⟨_, _, t0, _⟩ := I.tuple q
    cases e <;> unfold Rep at he
    · subst he; cases ru; exact EqAt.tuple_none t0 (by omega)
    · subst he; cases ru; exact EqAt.tuple_bool _ t0 (by omega)
    · subst he; obtain ⟨t, rfl⟩ := ru; exact EqAt.tuple_int _ _ t0 (by omega)
    · subst he; obtain ⟨t, rfl⟩ := ru; exact EqAt.tuple_str _ _ t0 (by omega)
    · rename_i es
      obtain ⟨b, ys, rfl, q2, r2⟩ := he
      cases ru
      by_cases hab : a = b
      · subst hab
        rw [Rep.inj I _ _ _ hd0 he0, eqD_refl]
        exact EqAt.same _
      · rw [eqD]
        exact EqAt.of_refs hab (rc_tup I q r q2 r2 (by omega) fun us ws w1 w2 j v u e1 e2 => eqAtDs I ds es A.in1 xs ys us ws r r2 w1 w2 (by rw [in1_units]; omega) j v u e1 e2).1
    · obtain ⟨b, ys, rfl, q2, r2⟩ := he
      cases ru
      obtain ⟨_, _, t, _⟩ := I.list q2
      exact EqAt.tuple_list t0 t.isList (by omega)
  | .lst ds, e, A, v, u, v', u', hd, he, rv, ru, hu => by
    have hd0 := hd
    have he0 := he
    unfold Rep at hd
    obtain ⟨a, xs, rfl, q, r⟩ := hd
    cases rv
    rw [deep] at hu
    obtain ⟨_, _, t0, _⟩ := I.list q
    cases e <;> unfold Rep at he
    · subst he; cases ru; exact EqAt.list_none t0.isList (by omega)
    · subst he; cases ru; exact EqAt.list_bool _ t0.isList (by omega)
    · subst he; obtain ⟨t, rfl⟩ := ru; exact EqAt.list_int _ _ t0.isList (by omega)
    · subst he; obtain ⟨t, rfl⟩ := ru; exact EqAt.list_str _ _ t0.isList (by omega)
    · obtain ⟨b, ys, rfl, q2, r2⟩ := he
      cases ru
      obtain ⟨_, _, t, _⟩ := I.tuple q2
      exact EqAt.list_tuple t0.isList t (by omega)
    · rename_i es
      obtain ⟨b, ys, rfl, q2, r2⟩ := he
      cases ru
      by_cases hab : a = b
      · subst hab
        rw [Rep.inj I _ _ _ hd0 he0, eqD_refl]
        exact EqAt.same _
      · rw [eqD]
        exact EqAt.of_refs hab (rc_lst I q r q2 r2 (by omega) fun us ws w1 w2 j v u e1 e2 => eqAtDs I ds es A.in1 xs ys us ws r r2 w1 w2 (by rw [in1_units]; omega) j v u e1 e2).1
theorem eqAtDs (I : Inv X pins σ H s) : ∀ (ds es : List D) (A : Around) (xs ys : List V) (us ws : List Value), Reps X.K H ds xs → Reps X.K H es ys → Vals xs us → Vals ys ws → A.units + deeps ds < cLine →
    ∀ (j : Nat) v u, us[j]? = some v → ws[j]? = some u → EqAt A s v u (pickEq ds es j)
  | [], es, A, xs, ys, us, ws, hd, he, rv, ru, hu, j, v, u, e1, e2 => by
    rw [hd.inv0] at rv; cases rv; simp at e1
  | d :: ds, [], A, xs, ys, us, ws, hd, he, rv, ru, hu, j, v, u, e1, e2 => by
    rw [he.inv0] at ru; cases ru; simp at e2
  | d :: ds, e :: es, A, xs, ys, us, ws, hd, he, rv, ru, hu, j, v, u, e1, e2 => by
    obtain ⟨x, xs, rfl, hx, hxs⟩ := hd.inv
    obtain ⟨y, ys, rfl, hy, hys⟩ := he.inv
    rw [deeps] at hu
    cases rv with
    | cons rv1 rv2 =>
      cases ru with
      | cons ru1 ru2 =>
        cases j with
        | zero =>
          simp at e1 e2
          subst e1 e2
          have p : pickEq (d :: ds) (e :: es) 0 = eqD d e := by simp [pickEq]
          rw [p]
          exact eqAtD I d e A x y _ _ hx hy rv1 ru1 (by omega)
        | succ j =>
          have p : pickEq (d :: ds) (e :: es) (j + 1) = pickEq ds es j := by simp [pickEq]
          rw [p]
          exact eqAtDs I ds es A xs ys _ _ hxs hys rv2 ru2 (by omega) j v u (by simpa using e1) (by simpa using e2)
end
theorem rcD (I : Inv X pins σ H s) (d e : D) {v u : V} {v' u' : Value} (hd : Rep X.K H d v) (he : Rep X.K H e u) (rv : RelV v v') (ru : RelV u u') (hu : A.units + deep d < cLine) : RcAt A s v' u' (eqD d e) ∧ RcNeAt A s v' u' (!eqD d e) := by
  cases d with
  | non =>
    unfold Rep at hd
    subst hd; cases rv
    cases e with
    | non =>
      unfold Rep at he
      subst he; cases ru
      exact ⟨RcAt.none_none , RcNeAt.none_none ⟩
    | bl b1 =>
      unfold Rep at he
      subst he; cases ru
      exact ⟨RcAt.none_bool _ , RcNeAt.none_bool _ ⟩
    | int i1 =>
      unfold Rep at he
      subst he; obtain ⟨t1, rfl⟩ := ru
      exact ⟨RcAt.none_int _ _ , RcNeAt.none_int _ _ ⟩
    | str x1 =>
      unfold Rep at he
      subst he; obtain ⟨t1, rfl⟩ := ru
      exact ⟨RcAt.none_str _ _ , RcNeAt.none_str _ _ ⟩
    | tup es =>
      unfold Rep at he
      obtain ⟨b, ys, rfl, q2, r2⟩ := he
      cases ru
      obtain ⟨_, _, t1, _⟩ := I.tuple q2
      exact ⟨RcAt.none_tuple t1 (by omega), RcNeAt.none_tuple t1 (by omega)⟩
    | lst es =>
      unfold Rep at he
      obtain ⟨b, ys, rfl, q2, r2⟩ := he
      cases ru
      obtain ⟨_, _, t1, _⟩ := I.list q2
      exact ⟨RcAt.none_list t1.isList (by omega), RcNeAt.none_list t1.isList (by omega)⟩
  | bl b0 =>
    unfold Rep at hd
    subst hd; cases rv
    cases e with
    | non =>
      unfold Rep at he
      subst he; cases ru
      exact ⟨RcAt.bool_none _ , RcNeAt.bool_none _ ⟩
    | bl b1 =>
      unfold Rep at he
      subst he; cases ru
      exact ⟨RcAt.bool_bool _ _ , RcNeAt.bool_bool _ _ ⟩
    | int i1 =>
      unfold Rep at he
      subst he; obtain ⟨t1, rfl⟩ := ru
      exact ⟨RcAt.bool_int _ _ _ , RcNeAt.bool_int _ _ _ ⟩
    | str x1 =>
      unfold Rep at he
      subst he; obtain ⟨t1, rfl⟩ := ru
      exact ⟨RcAt.bool_str _ _ _ , RcNeAt.bool_str _ _ _ ⟩
    | tup es =>
      unfold Rep at he
      obtain ⟨b, ys, rfl, q2, r2⟩ := he
      cases ru
      obtain ⟨_, _, t1, _⟩ := I.tuple q2
      exact ⟨RcAt.bool_tuple _ t1 (by omega), RcNeAt.bool_tuple _ t1 (by omega)⟩
    | lst es =>
      unfold Rep at he
      obtain ⟨b, ys, rfl, q2, r2⟩ := he
      cases ru
      obtain ⟨_, _, t1, _⟩ := I.list q2
      exact ⟨RcAt.bool_list _ t1.isList (by omega), RcNeAt.bool_list _ t1.isList (by omega)⟩
  | int i0 =>
    unfold Rep at hd
    subst hd; obtain ⟨t0, rfl⟩ := rv
    cases e with
    | non =>
      unfold Rep at he
      subst he; cases ru
      exact ⟨RcAt.int_none _ _ , RcNeAt.int_none _ _ ⟩
    | bl b1 =>
      unfold Rep at he
      subst he; cases ru
      exact ⟨RcAt.int_bool _ _ _ , RcNeAt.int_bool _ _ _ ⟩
    | int i1 =>
      unfold Rep at he
      subst he; obtain ⟨t1, rfl⟩ := ru
      exact ⟨RcAt.int_int _ _ _ _ , RcNeAt.int_int _ _ _ _ ⟩
    | str x1 =>
      unfold Rep at he
      subst he; obtain ⟨t1, rfl⟩ := ru
      exact ⟨RcAt.int_str _ _ _ _ , RcNeAt.int_str _ _ _ _ ⟩
    | tup es =>
      unfold Rep at he
      obtain ⟨b, ys, rfl, q2, r2⟩ := he
      cases ru
      obtain ⟨_, _, t1, _⟩ := I.tuple q2
      exact ⟨RcAt.int_tuple _ _ t1 (by omega), RcNeAt.int_tuple _ _ t1 (by omega)⟩
    | lst es =>
      unfold Rep at he
      obtain ⟨b, ys, rfl, q2, r2⟩ := he
      cases ru
      obtain ⟨_, _, t1, _⟩ := I.list q2
      exact ⟨RcAt.int_list _ _ t1.isList (by omega), RcNeAt.int_list _ _ t1.isList (by omega)⟩
  | str x0 =>
    unfold Rep at hd
    subst hd; obtain ⟨t0, rfl⟩ := rv
    cases e with
    | non =>
      unfold Rep at he
      subst he; cases ru
      exact ⟨RcAt.str_none _ _ , RcNeAt.str_none _ _ ⟩
    | bl b1 =>
      unfold Rep at he
      subst he; cases ru
      exact ⟨RcAt.str_bool _ _ _ , RcNeAt.str_bool _ _ _ ⟩
    | int i1 =>
      unfold Rep at he
      subst he; obtain ⟨t1, rfl⟩ := ru
      exact ⟨RcAt.str_int _ _ _ _ , RcNeAt.str_int _ _ _ _ ⟩
    | str x1 =>
      unfold Rep at he
      subst he; obtain ⟨t1, rfl⟩ := ru
      exact ⟨RcAt.str_str _ _ _ _ , RcNeAt.str_str _ _ _ _ ⟩
    | tup es =>
      unfold Rep at he
      obtain ⟨b, ys, rfl, q2, r2⟩ := he
      cases ru
      obtain ⟨_, _, t1, _⟩ := I.tuple q2
      exact ⟨RcAt.str_tuple _ _ t1 (by omega), RcNeAt.str_tuple _ _ t1 (by omega)⟩
    | lst es =>
      unfold Rep at he
      obtain ⟨b, ys, rfl, q2, r2⟩ := he
      cases ru
      obtain ⟨_, _, t1, _⟩ := I.list q2
      exact ⟨RcAt.str_list _ _ t1.isList (by omega), RcNeAt.str_list _ _ t1.isList (by omega)⟩
  | tup ds =>
    unfold Rep at hd
    obtain ⟨a, xs, rfl, q, r⟩ := hd
    cases rv
    rw [deep] at hu
    obtain ⟨_, _, t0, _⟩ := I.tuple q
    cases e with
    | non =>
      unfold Rep at he
      subst he; cases ru
      exact ⟨RcAt.tuple_none t0 (by omega), RcNeAt.tuple_none t0 (by omega)⟩
    | bl b1 =>
      unfold Rep at he
      subst he; cases ru
      exact ⟨RcAt.tuple_bool _ t0 (by omega), RcNeAt.tuple_bool _ t0 (by omega)⟩
    | int i1 =>
      unfold Rep at he
      subst he; obtain ⟨t1, rfl⟩ := ru
      exact ⟨RcAt.tuple_int _ _ t0 (by omega), RcNeAt.tuple_int _ _ t0 (by omega)⟩
    | str x1 =>
      unfold Rep at he
      subst he; obtain ⟨t1, rfl⟩ := ru
      exact ⟨RcAt.tuple_str _ _ t0 (by omega), RcNeAt.tuple_str _ _ t0 (by omega)⟩
    | tup es =>
      unfold Rep at he
      obtain ⟨b, ys, rfl, q2, r2⟩ := he
      cases ru
      obtain ⟨_, _, t1, _⟩ := I.tuple q2
      have z := rc_tup I q r q2 r2 (A := A) (by omega) fun us ws w1 w2 j v u e1 e2 => eqAtDs I ds es A.in1 xs ys us ws r r2 w1 w2 (by rw [in1_units]; omega) j v u e1 e2
      rw [eqD]; exact z
    | lst es =>
      unfold Rep at he
      obtain ⟨b, ys, rfl, q2, r2⟩ := he
      cases ru
      obtain ⟨_, _, t1, _⟩ := I.list q2
      exact ⟨RcAt.tuple_list t0 t1.isList (by omega), RcNeAt.tuple_list t0 t1.isList (by omega)⟩
  | lst ds =>
    unfold Rep at hd
    obtain ⟨a, xs, rfl, q, r⟩ := hd
    cases rv
    rw [deep] at hu
    obtain ⟨_, _, t0, _⟩ := I.list q
    cases e with
    | non =>
      unfold Rep at he
      subst he; cases ru
      exact ⟨RcAt.list_none t0.isList (by omega), RcNeAt.list_none t0.isList (by omega)⟩
    | bl b1 =>
      unfold Rep at he
      subst he; cases ru
      exact ⟨RcAt.list_bool _ t0.isList (by omega), RcNeAt.list_bool _ t0.isList (by omega)⟩
    | int i1 =>
      unfold Rep at he
      subst he; obtain ⟨t1, rfl⟩ := ru
      exact ⟨RcAt.list_int _ _ t0.isList (by omega), RcNeAt.list_int _ _ t0.isList (by omega)⟩
    | str x1 =>
      unfold Rep at he
      subst he; obtain ⟨t1, rfl⟩ := ru
      exact ⟨RcAt.list_str _ _ t0.isList (by omega), RcNeAt.list_str _ _ t0.isList (by omega)⟩
    | tup es =>
      unfold Rep at he
      obtain ⟨b, ys, rfl, q2, r2⟩ := he
      cases ru
      obtain ⟨_, _, t1, _⟩ := I.tuple q2
      exact ⟨RcAt.list_tuple t0.isList t1 (by omega), RcNeAt.list_tuple t0.isList t1 (by omega)⟩
    | lst es =>
      unfold Rep at he
      obtain ⟨b, ys, rfl, q2, r2⟩ := he
      cases ru
      obtain ⟨_, _, t1, _⟩ := I.list q2
      have z := rc_lst I q r q2 r2 (A := A) (by omega) fun us ws w1 w2 j v u e1 e2 => eqAtDs I ds es A.in1 xs ys us ws r r2 w1 w2 (by rw [in1_units]; omega) j v u e1 e2
      rw [eqD]; exact z
def rEqD (K : PySem.W.Frag) : R2 := fun x y H Q => ∃ d e, Rep K H d x ∧ Rep K H e y ∧ deep d ≤ 60 ∧ Q (.bl (eqD d e)) H
def rNeD (K : PySem.W.Frag) : R2 := fun x y H Q => ∃ d e, Rep K H d x ∧ Rep K H e y ∧ deep d ≤ 60 ∧ Q (.bl (!eqD d e)) H
theorem op_eqD (hu : X.A.units + 64 < cLine) : OpR X (compareOp .Eq) (rEqD X.K) := by
  intro pins s σ H x y v u Q I rx ry h
  obtain ⟨d, e, hd, he, hz, q⟩ := h
  exact (rcD (A := X.A) I d e hd he rx ry (by omega)).1 X.prog X.w X.xe _ ⟨.bl (eqD d e), H, I, rfl, q⟩
theorem op_neD (hu : X.A.units + 64 < cLine) : OpR X (compareOp .NotEq) (rNeD X.K) := by
  intro pins s σ H x y v u Q I rx ry h
  obtain ⟨d, e, hd, he, hz, q⟩ := h
  exact (rcD (A := X.A) I d e hd he rx ry (by omega)).2 X.prog X.w X.xe _ ⟨.bl (!eqD d e), H, I, rfl, q⟩
noncomputable def absD (K : PySem.W.Frag) (H : Hp) (u : Value) : D := by
  classical exact if h : ∃ d v, RelV v u ∧ Rep K H d v then h.choose else .non
theorem absD_eq {d : D} {v : V} {u : Value} (I : Inv X pins σ H s) (r : RelV v u) (h : Rep X.K H d v) : absD X.K H u = d := by
  have hx : ∃ d v, RelV v u ∧ Rep X.K H d v := ⟨d, v, r, h⟩
  unfold absD
  rw [dif_pos hx]
  obtain ⟨v2, r2, h2⟩ := hx.choose_spec
  have := r2.inj r
  subst this
  exact Rep.inj I _ _ _ h2 h
theorem any_vals {K : PySem.W.Frag} {H : Hp} {d : D} (f : Value → D) : ∀ {ds : List D} {xs : List V} {us : List Value}, Reps K H ds xs → Vals xs us → (∀ d v u, Rep K H d v → RelV v u → f u = d) → (us.any fun u => eqD (f u) d) = ds.any fun e => eqD e d
  | [], _, _, h, rv, _ => by rw [h.inv0] at rv; cases rv; rfl
  | e :: ds, _, _, h, rv, hf => by
    obtain ⟨v, r, rfl, q, t⟩ := h.inv
    cases rv with
    | cons r1 r2 => rw [List.any_cons, List.any_cons, hf _ _ _ q r1, any_vals f t r2 hf]
theorem mem_rep {K : PySem.W.Frag} {H : Hp} : ∀ {ds : List D} {xs : List V} {us : List Value}, Reps K H ds xs → Vals xs us → ∀ u ∈ us, ∃ d v, Rep K H d v ∧ RelV v u ∧ deep d ≤ deeps ds
  | [], _, _, h, rv, u, hu => by rw [h.inv0] at rv; cases rv; cases hu
  | e :: ds, _, _, h, rv, u, hu => by
    obtain ⟨v, r, rfl, q, t⟩ := h.inv
    cases rv with
    | cons r1 r2 =>
      rw [deeps]
      rcases List.mem_cons.mp hu with z | z
      · subst z; exact ⟨e, v, q, r1, by omega⟩
      · obtain ⟨d, w', a, b, c⟩ := mem_rep t r2 u z
        exact ⟨d, w', a, b, by omega⟩
def rInD (K : PySem.W.Frag) (neg : Bool) : R2 := fun x y H Q => ∃ d p xs ds, Rep K H d x ∧ y = .ref p ∧ SqL K H p xs ∧ Reps K H ds xs ∧ deeps ds ≤ 60 ∧ Q (.bl (if neg then !ds.any (fun e => eqD e d) else ds.any fun e => eqD e d)) H
theorem op_notInD (hu : X.A.units + 64 < cLine) : OpR X (compareOp .NotIn) (rInD X.K true) := by
  intro pins s σ H x y v u Q I rx ry h
  obtain ⟨d, p, xs, ds, hd, rfl, hq, hr, hz, q⟩ := h
  cases ry
  obtain ⟨its, rv, t, _⟩ := I.list hq
  refine notIn_listAt (fun u => eqD (absD X.K H u) d) t.isList (fun z hz' => ?_) ?_
  · obtain ⟨e, w', a, b, c⟩ := mem_rep hr rv z (by simpa using hz')
    have := eqAtD I e d X.A.in1 w' x z v a hd b rx (by rw [in1_units]; omega)
    rw [absD_eq I b a]
    exact this
  · refine ⟨.bl _, H, I, rfl, ?_⟩
    have e := any_vals (d := d) (absD X.K H) hr rv fun d v u a b => absD_eq I b a
    have e2 : (its.toArray.any fun u => eqD (absD X.K H u) d) = ds.any fun e => eqD e d := by rw [← e]; simp
    rw [e2]; exact q
end
end L3

/-! [e for x in xs], [e for x in xs if c]: the block runs in a context of its own; no exception leaves it. -/
namespace L3
open PySem PySem.Spec PyProof.Rows L2
def blk (X : Cx) (scope : Scope) (cl : List (Str × Addr)) (N' : List Str) (C : Addr) (s₀ : Shared) (H₀ : Hp) (ex : List Addr) (pn : List (Addr × Obj)) : Cx where
  prog := X.prog
  w := X.w
  K := X.K
  mg := X.mg
  base := X.base
  A := X.A
  N := N'
  s₀ := s₀
  H₀ := H₀
  env := compEnvC scope cl C X.env
  outer := X.stack
  stack := X.stack
  ex := ex
  fn := fun _ => false
  calm := X.calm
  pn := pn
  xe := fun _ _ => False
abbrev lobj (its : List Value) : Obj := { cls := .type "list", data := .seq its.toArray its.length }
theorem toE {α : Type} {t : Sem α} {Q : α → Shared → Prop} {M : Model} {A : Around} {E : Value → Shared → Prop} {s : Shared} (h : wpAny M A t Q (fun _ _ => False) s) : wpAny M A t Q E s := wpAny_mono h (fun _ _ q => q) fun _ _ f => f.elim
section
variable {X : Cx} {pins : List (Addr × Obj)} {σ : L2.St} {H : Hp} {s : Shared}
def PF (X : Cx) (ifs : List Expr) (t : TT) : Prop := ∀ (pins : List (Addr × Obj)) (s : Shared) (σ : L2.St) (H : Hp) (Q : Bool → Hp → Prop), Inv X pins σ H s → t σ H Q →
  wpAny (model X.prog X.w) X.A (forIn ifs true fun c r => if r = true then do let ok ← isTrue c X.env (eval c X.env); pure (ForInStep.yield ok) else pure (ForInStep.yield r)) (TP X pins σ Q) X.xe s
def tTrue : TT := fun _ H Q => Q true H
theorem pf_nil : PF X [] tTrue := fun _ _ _ H _ I h => wpAny_tests_nil ⟨H, I, h⟩
theorem pf_one {c : Expr} {t : TT} (h : PT X c t) : PF X [c] t := fun pins s σ H Q I hq => wpAny_tests_one (h pins s σ H Q I hq)

theorem Inv.track {D : Addr} {ys : List V} {its : List Value} (I : Inv X pins σ H s) (hD : H D = none) (ho : s.heap.get? D = some (lobj its)) (hv : Vals ys its) (hz : ys.length ≤ sizeLine)
    (h1 : D ∈ X.ex ∨ X.s₀.heap.objs.size ≤ D) (h2 : D ≠ X.env.locals) (h3 : ∀ x c, X.env.cells.lookup x = some c → c ≠ D) (h4 : ∀ p ∈ X.pn ++ pins, p.1 ≠ D) : Inv X pins σ (upd H D (.lst ys)) s := by
  have old : ∀ b u, H b = some u → upd H D (.lst ys) b = some u := fun b u e => by rw [upd_ne (ne_of_none e hD)]; exact e
  refine I.step (g' := s.gens) (t' := s.toks) (d' := s.drawn) (h' := s.heap) (ch := [D]) (fun b hb => ?_) (fun b o _ _ _ e _ => e) (fun b o _ _ _ e _ => ⟨o.slots, e⟩) (fun b o hb _ n => ?_) (fun b o _ e => ⟨o, e⟩)
    (fun b xs e => old b _ e) (fun b o u e => old b _ e) (fun b ps e => ⟨#[], by rw [old b _ e]; simp⟩) (fun m hm => hm) (fun b u e => ?_) I.bare
  · have e : b = D := by simpa using hb
    subst e
    exact ⟨h1, h2, h3, h4⟩
  · rw [upd_ne (by simpa using hb)]; exact n
  · by_cases hb : b = D
    · subst hb
      rw [upd_same] at e; cases e
      exact ⟨hz, its, its.length, hv, ho⟩
    · rw [upd_ne hb] at e
      exact (I.hok b u e).stay (fun c v _ q => q) (fun c q => old c _ q) fun c xs q => old c _ q

def lend (js : List (Option Nat)) (σ : L2.St) : L2.St := js.map fun o => o.bind fun j => (σ[j]?).join
structure Blk (X : Cx) (scope : Scope) (cl : List (Str × Addr)) (N' : List Str) (js : List (Option Nat)) : Prop where
  clos : closureFor scope X.env = pure cl
  nocell : ∀ y ∈ scope.names, y.2 ≠ .cell
  kind : scope.kind = .function
  names : ∀ y ∈ scope.names, y.2 = .local → scope.names.lookup y.1 = some .local
  sub : ∀ y c, cl.lookup y = some c → X.env.cells.lookup y = some c
  has : ∀ y, ((relabel scope X.env).names.lookup y = some .cell ∨ (relabel scope X.env).names.lookup y = some .free) → ∃ c, cl.lookup y = some c
  len : js.length = N'.length
  lent : ∀ (i : Nat) y j, N'[i]? = some y → js[i]? = some (some j) → X.N[j]? = some y ∧ Vis X.env.scope y ∧ X.env.scope.names.lookup y ≠ some .local ∧ (relabel scope X.env).names.lookup y ≠ some .local

theorem blk_inv {scope : Scope} {cl : List (Str × Addr)} {N' : List Str} {js : List (Option Nat)} {fp : List Addr} {C : Addr} {h1 : Heap} {m : Str → Option Value} {tk : Nat} (B : Blk X scope cl N' js) (I : Inv X pins σ H s) (f : ∀ b ∈ fp, FpOk X pins H b)
    (fo : ∀ b ∈ fp, ∃ o, s.heap.get? b = some o) (old : ∀ b o, s.heap.get? b = some o → h1.get? b = some o) (hns : h1.Ns C m) (hC : s.heap.objs.size ≤ C) :
    Inv (blk X scope cl N' C s H fp (X.pn ++ pins)) [] (lend js σ) H { s with heap := h1, toks := tk } := by
  have ltC : ∀ b o, s.heap.get? b = some o → b ≠ C := fun b o e => Nat.ne_of_lt (Nat.lt_of_lt_of_le (Heap.lt_size e) hC)
  refine ⟨⟨I.ok.mod, B.kind, I.ok.glob, I.ok.blt, hC, fun y z c e1 e2 => I.ok.inj y z c (B.sub y c e1) (B.sub z c e2), fun y hy => B.has y hy, (fun y c e => nomatch e), I.ok.hd, I.ok.frames, .inl rfl, fun b hb => ?_, I.bs, ?_, fun b o e hb => ?_, fun b hb hs => ?_, I.stack, I.stkFree⟩,
    rfl, I.bare, Un.kept old, ⟨m, hns, fun i y v e1 e2 e3 => ?_⟩, fun y c e => ?_, I.hok.fresh hC, fun y c e => I.freeC y c (B.sub y c e), fun p hp => ?_, I.hok.kept old, ?_⟩
  · obtain ⟨o, e⟩ := fo b hb
    exact ⟨ltC b o e, fun y c q => (f b hb).2.2.2.2.1 y c (B.sub y c q)⟩
  · exact Nat.le_trans I.ok.bsz I.sz
  · rcases (f b hb).2.2.2.1 with z | z
    · exact I.ok.noex b o e z
    · exact absurd (Nat.lt_of_lt_of_le (Heap.lt_size (I.ok.bs b o e).1) z) (Nat.lt_irrefl _)
  · rcases List.mem_cons.mp (I.stkSub b hs) with z | z
    · exact (f b hb).2.1 z
    · exact (f b hb).2.2.1 z
  · have e2' : (lend js σ)[i]? = some (some v) := e2
    unfold lend at e2'
    rw [List.getElem?_map] at e2'
    cases ej : js[i]? with
    | none => rw [ej] at e2'; cases e2'
    | some o =>
      rw [ej] at e2'
      cases o with
      | none => cases e2'
      | some j =>
        obtain ⟨n1, n2, n3, n4⟩ := B.lent i y j e1 ej
        have es : σ[j]? = some (some v) := by
          cases q : σ[j]? with
          | none => rw [show (some (some j)).map _ = _ from rfl] at e2'; simp [q] at e2'
          | some z => simp [q] at e2'; rw [e2']
        obtain ⟨m0, hn0, hl0⟩ := I.loc
        obtain ⟨u, r, l⟩ := hl0 j y v n1 es n2
        refine ⟨u, r, ?_⟩
        rcases l with ⟨k, _⟩ | ⟨k, c, ec, z⟩
        · exact absurd k n3
        · have k' : (relabel scope X.env).names.lookup y = some .cell ∨ (relabel scope X.env).names.lookup y = some .free := by
            rcases e3 with q | q
            · exact absurd q n4
            · exact q
          obtain ⟨c', ec'⟩ := B.has y k'
          have := B.sub y c' ec'
          rw [ec] at this; cases this
          obtain ⟨oc, hoc, hd⟩ := z
          exact .inr ⟨k', c, ec', oc, old _ _ hoc, hd⟩
  · obtain ⟨v, oc, hoc, hd⟩ := I.cell y c (B.sub y c e)
    exact ⟨v, oc, old _ _ hoc, hd⟩
  · have hp' : p ∈ X.pn ++ pins := by simpa [blk] using hp
    obtain ⟨e, n, ne, nf, d⟩ := I.pin p hp'
    refine ⟨old _ _ e, n, ltC _ _ e, fun hs => ?_, d⟩
    rcases List.mem_cons.mp (I.stkSub p.1 hs) with z | z
    · exact ne z
    · exact nf z
  · show (lend js σ).length = N'.length
    unfold lend
    rw [List.length_map, B.len]

theorem codeAny_compLoop_any {prog : Program} {w : World} {A : Around} {R : Result → Shared → Prop} {s : Shared} {elt target iter : Expr} {ifs : List Expr} {scope : Scope} {pos : Pos} {it acc : Value} {env : Env} (I : Nat → Shared → Prop)
    (turn : ∀ n s, I n s → wpAny (model prog w) A (pyNext it) (fun r s₁ => match r with
      | none => R (.ok .next) s₁
      | some v => wpAny (model prog w) A (letOwnedTupleGo target it v) (fun _ s₁' => wpAny (model prog w) A (assign target env v) (fun _ s₂ =>
          wpAny (model prog w) A (forIn ifs true fun c r => if r = true then do let ok ← isTrue c env (eval c env); pure (ForInStep.yield ok) else pure (ForInStep.yield r)) (fun ok s₃ =>
            if ok = true then wpAny (model prog w) A (eval elt env) (fun x s₄ =>
              wpAny (model prog w) A (call (.builtin "list.append") [acc, x]) (fun _ s₅ => ∃ m, m < n ∧ I m s₅) (fun _ _ => False) s₄) (fun _ _ => False) s₃
            else ∃ m, m < n ∧ I m s₃) (fun _ _ => False) s₂) (fun _ _ => False) s₁') (fun _ _ => False) s₁) (fun _ _ => False) s)
    (n : Nat) (h : I n s) :
    codeAny (model prog w) A (.compLoop (.ListComp elt [⟨target, iter, ifs, 0⟩] scope pos) 0 it acc env) R s := by
  refine codeAny_loop rfl I (fun n s hI => ?_) n h
  show wpAny _ A ((compTurn (.ListComp elt [⟨target, iter, ifs, 0⟩] scope pos) 0 it acc env).onRaise (fun x => do noteFrame x env; theTreesLotGoes x)) _ _ s
  refine wpAny_noted ?_
  rw [compTurn_list]
  refine wpAny_bind (wpAny_standAt (wpAny_bind (wpAny_mono (turn n s hI) (fun r s₁ h₁ => ?_) fun _ _ f => f.elim)))
  cases r with
  | none => exact wpAny_pure h₁
  | some v =>
    refine wpAny_bind (wpAny_mono h₁ (fun _ s₁' h₁' => ?_) fun _ _ f => f.elim)
    refine wpAny_bind (wpAny_mono h₁' (fun _ s₂ h₂ => wpAny_bind (wpAny_mono h₂ (fun ok s₃ h₃ => ?_) fun _ _ f => f.elim)) fun _ _ f => f.elim)
    cases ok with
    | false => exact wpAny_pure ⟨rfl, h₃⟩
    | true =>
      exact wpAny_bind (wpAny_bind (wpAny_mono h₃ (fun x s₄ h₄ => wpAny_bind (wpAny_mono h₄ (fun _ s₅ h₅ => wpAny_pure (wpAny_pure ⟨rfl, h₅⟩)) fun _ _ f => f.elim)) fun _ _ f => f.elim))

def CompGo (J : It) (g : TG) (tf : TT) (te : TE) (Q : VK) (τ0 : L2.St) (H1 : Hp) : Prop := ∃ W : Nat → Nat → List V → L2.St → Hp → Prop, (∃ m, W 0 m [] τ0 H1) ∧ ∀ i m ys τ H, W i m ys τ H →
  (J.stop i H ∧ ∀ p, H p = none → Q (.ref p) (upd H p (.lst ys))) ∨ (J.go i H ∧ ∃ Nx : List V → L2.St → Hp → Prop, (∀ ys' τ' H', Nx ys' τ' H' → ∃ m', m' < m ∧ W (i + 1) m' ys' τ' H') ∧
    ∀ v H', J.yld i H v H' → g v τ H' fun τ2 H2 => tf τ2 H2 fun b H3 => if b = true then te τ2 H3 fun y H4 => ys.length < sizeLine ∧ Nx (ys ++ [y]) τ2 H4 else Nx ys τ2 H3)
def tComp (js : List (Option Nat)) (wi : TI) (g : TG) (tf : TT) (te : TE) : TE := fun σ H Q => wi σ H fun J H1 => CompGo J g tf te Q (lend js σ) H1
theorem comp_core {elt iter tg : Expr} {ifs : List Expr} {scope : Scope} {pos : Pos} {cl : List (Str × Addr)} {N' : List Str} {js : List (Option Nat)} {g : TG} {tf : TT} {te : TE} {RR : Value → Addr → Result → Shared → Prop} {Qv : VK} {E : Value → Shared → Prop} {it : Addr} {fp : List Addr} {tn : Nat → Heap → Prop} {J : It} {H2 : Hp} {s2 : Shared}
    (hc : X.calm = true) (B : Blk X scope cl N' js) (hg : ∀ C s₀ H₀ ex pn, PG (blk X scope cl N' C s₀ H₀ ex pn) tg g) (hf : ∀ C s₀ H₀ ex pn, PF (blk X scope cl N' C s₀ H₀ ex pn) ifs tf) (he : ∀ C s₀ H₀ ex pn, PE (blk X scope cl N' C s₀ H₀ ex pn) elt te)
    (I2 : Inv X pins σ H2 s2) (T : Turn X.prog X.w X.K tg J fp it tn) (st2 : tn 0 s2.heap) (f2 : ∀ b ∈ fp, FpOk X pins H2 b) (cg : CompGo J g tf te Qv (lend js σ) H2)
    (fin : ∀ (Dd Cc : Addr) (m : Str → Option Value) (s4 : Shared) (Hx : Hp), Inv X pins σ Hx s4 → Qv (.ref Dd) Hx → s4.heap.Ns Cc m → Hx Cc = none → Cc ≠ X.env.locals → X.s₀.heap.objs.size ≤ Cc → (∀ x c, X.env.cells.lookup x = some c → c ≠ Cc) → (∀ p ∈ X.pn ++ pins, p.1 ≠ Cc) →
      RR (.ref Dd) Cc (.ok .next) s4) :
    wpAny (model X.prog X.w) X.A (newList []) (fun acc s₃ => wpAny (model X.prog X.w) X.A (newFunctionEnv scope X.env.globals cl [] X.env.qual none .none (some X.env)) (fun cenv s₄ =>
      codeAny (model X.prog X.w) X.A (.compStart (.ListComp elt [⟨tg, iter, ifs, 0⟩] scope pos) 0 (.ref it) acc { cenv with scope := relabel scope X.env }) (RR acc cenv.locals) s₄) E s₃) E s2 := by
  obtain ⟨W, ⟨m0, w0⟩, turn⟩ := cg
  refine wpAny_newObj_type (wpAny_newFunctionEnv B.nocell (by intro y hy; simp at hy) (fun h₁ hns₁ hsb₁ => ?_) B.kind)
  dsimp only at hns₁ hsb₁ ⊢
  generalize hG : s2.heap.push { cls := .type "list", dict := none, data := .seq ([] : List Value).toArray } = G at hns₁ hsb₁ ⊢
  have hC : G.objs.size = s2.heap.objs.size + 1 := by rw [← hG, Heap.size_push]
  have hDC : s2.heap.objs.size ≠ G.objs.size := by rw [hC]; exact Nat.ne_of_lt (Nat.lt_succ_self _)
  have below : ∀ b, b < s2.heap.objs.size → b ≠ G.objs.size ∧ b ≠ s2.heap.objs.size := fun b hb => ⟨by rw [hC]; exact Nat.ne_of_lt (Nat.lt_succ_of_lt hb), Nat.ne_of_lt hb⟩
  have old : ∀ b o, s2.heap.get? b = some o → h₁.get? b = some o := fun b o e => hsb₁.extBut b o (below b (Heap.lt_size e)).1 (Heap.get?_push_of_some _ (hG ▸ Heap.get?_push_of_some _ e))
  have hacc : h₁.get? s2.heap.objs.size = some (lobj []) := hsb₁.extBut _ _ hDC (Heap.get?_push_of_some _ (hG ▸ Heap.get?_push_size _ rfl))
  have fo : ∀ b ∈ fp, ∃ o, s2.heap.get? b = some o := fun b hb => let ⟨o, e, _⟩ := T.obj 0 _ st2 b hb; ⟨o, e⟩
  have I4 := blk_inv (tk := s2.toks + ([] : List (Str × Value)).length) B I2 f2 fo old hns₁ (by rw [hC]; exact Nat.le_succ _)
  generalize hD : s2.heap.objs.size = Dd at *
  generalize hCC : G.objs.size = Cc at *
  have st4 : tn 0 h₁ := T.keep 0 _ _ st2 fun b _ o e => old b o e
  have fpne : ∀ b ∈ fp, b ≠ Dd := fun b hb => let ⟨o, e⟩ := fo b hb; by rw [← hD]; exact Nat.ne_of_lt (Heap.lt_size e)
  have hDfree : H2 Dd = none := I2.hok.fresh (by rw [hD]; exact Nat.le_refl _)
  have hDfs : Dd ∉ frs X.stack := fun hb => by
    rcases List.mem_cons.mp (I2.stkSub _ hb) with z | z
    · have := I2.lt; rw [← z, hD] at this; exact Nat.lt_irrefl _ this
    · exact I2.nofs (a := Dd) (by rw [hD]; exact Nat.le_refl _) z
  have hDcell : ∀ x c, X.env.cells.lookup x = some c → c ≠ Dd := fun x c e z => by
    obtain ⟨v, q⟩ := I2.cell x c e
    have := q.lt
    rw [z, ← hD] at this; exact Nat.lt_irrefl _ this
  have hDpin : ∀ p ∈ X.pn ++ pins, p.1 ≠ Dd := fun p hp z => by
    have := Heap.lt_size (I2.pin p hp).1
    rw [z, ← hD] at this; exact Nat.lt_irrefl _ this
  -- the block's context
  generalize hXb : blk X scope cl N' Cc s2 H2 fp (X.pn ++ pins) = Xb at I4
  have xP : Xb.prog = X.prog := by rw [← hXb]; rfl
  have xW : Xb.w = X.w := by rw [← hXb]; rfl
  have xK : Xb.K = X.K := by rw [← hXb]; rfl
  have xA : Xb.A = X.A := by rw [← hXb]; rfl
  have xC : Xb.calm = true := by rw [← hXb]; exact hc
  have xL : Xb.env.locals = Cc := by rw [← hXb]; rfl
  have xFs : Xb.fs = frs X.stack := by rw [← hXb]; rfl
  have xEx : Xb.ex = fp := by rw [← hXb]; rfl
  have xPn : Xb.pn = X.pn ++ pins := by rw [← hXb]; rfl
  have xS : Xb.s₀ = s2 := by rw [← hXb]; rfl
  have xH : Xb.H₀ = H2 := by rw [← hXb]; rfl
  have xCl : ∀ y c, Xb.env.cells.lookup y = some c → X.env.cells.lookup y = some c := by rw [← hXb]; exact B.sub
  have xE : Xb.env = compEnvC scope cl Cc X.env := by rw [← hXb]; rfl
  have xX : Xb.xe = fun _ _ => False := by rw [← hXb]; rfl
  have hg' : PG Xb tg g := by rw [← hXb]; exact hg _ _ _ _ _
  have hf' : PF Xb ifs tf := by rw [← hXb]; exact hf _ _ _ _ _
  have he' : PE Xb elt te := by rw [← hXb]; exact he _ _ _ _ _
  have fok : ∀ {H' : Hp} {o : Obj}, (∀ b ∈ fp, H' b = none) → ∀ b ∈ fp, FpOk Xb [(Dd, o)] H' b := fun {H' o} hn b hb => by
    obtain ⟨o', e'⟩ := fo b hb
    refine ⟨hn b hb, ?_, ?_, .inl (by rw [xEx]; exact hb), fun y c q => (f2 b hb).2.2.2.2.1 y c (xCl y c q), fun p hp => ?_⟩
    · rw [xL]; exact (below b (by have := Heap.lt_size e'; rw [hD] at this; exact this)).1
    · rw [xFs]
      intro hs
      rcases List.mem_cons.mp (I2.stkSub b hs) with z | z
      · exact (f2 b hb).2.1 z
      · exact (f2 b hb).2.2.1 z
    · rw [xPn] at hp
      rcases List.mem_append.mp hp with z | z
      · exact (f2 b hb).2.2.2.2.2 p z
      · rw [List.mem_singleton.mp z]; exact (fpne b hb).symm
  have hDC' : Dd ≠ Cc := by rw [← hD, ← hCC]; rw [← hCC, ← hD] at hDC; exact hDC
  have loop : codeAny (model X.prog X.w) X.A (.compLoop (.ListComp elt [⟨tg, iter, ifs, 0⟩] scope pos) 0 (.ref it) (.ref Dd) (compEnvC scope cl Cc X.env)) (RR (.ref Dd) Cc)
      { s2 with heap := h₁, toks := s2.toks + ([] : List (Str × Value)).length } := by
    refine codeAny_compLoop_any (fun n s' => ∃ i ys τ H' its, Inv Xb [(Dd, lobj its)] τ H' s' ∧ tn i s'.heap ∧ (∀ b ∈ fp, H' b = none) ∧ Vals ys its ∧ ys.length ≤ sizeLine ∧ W i n ys τ H') ?_ m0
      ⟨0, [], _, H2, [], I4.pins_of (fun p hp => ?_), st4, fun b hb => (f2 b hb).1, .nil, Nat.zero_le _, w0⟩
    · rintro n s3 ⟨i, ys, τ, H3, its, I3, st3, fr3, hv, hz, w3⟩
      have pD := I3.pin (Dd, lobj its) (List.mem_append_right _ (List.mem_singleton.mpr rfl))
      rcases turn i n ys τ H3 w3 with ⟨stop, qn⟩ | ⟨go, Nx, hN, step⟩
      · have hd := T.done Xb xP xW xK xC i [(Dd, lobj its)] s3 τ H3 (fun _ _ => False) I3 (fok fr3) st3 stop
        rw [xA] at hd
        refine thn hd fun r s4 ⟨hr, I5⟩ => ?_
        subst hr
        obtain ⟨m, hn, _⟩ := id I5.loc
        rw [xL] at hn
        have pD5 := I5.pin (Dd, lobj its) (List.mem_append_right _ (List.mem_singleton.mpr rfl))
        have ub := I5.base
        rw [xFs, xEx, xS, xH] at ub
        have hfC : H3 Cc = none := by have := I5.free; rw [xL] at this; exact this
        have ok5 : HOk X.prog X.w H3 s4.heap := by have := I5.hok; rw [xP, xW] at this; exact this
        have IX : Inv X pins σ H3 s4 := I2.call' (s' := s4) (by rw [I5.os, xS]) ub ok5 I5.bare fun b hb => ⟨(f2 b hb).2.2.2.1, (f2 b hb).2.1, (f2 b hb).2.2.2.2.1, (f2 b hb).2.2.2.2.2⟩
        have hlo : X.s₀.heap.objs.size ≤ Dd := by rw [← hD]; exact I2.sz
        have hloL : Dd ≠ X.env.locals := fun z => by have := I2.lt; rw [← z, hD] at this; exact Nat.lt_irrefl _ this
        have hCD : Dd ≤ Cc := by omega
        refine fin Dd Cc m s4 (upd H3 Dd (.lst ys)) (L3.Inv.track IX pD5.2.1 pD5.1 hv hz (.inr hlo) hloL hDcell hDpin) (qn Dd pD5.2.1) hn (by rw [upd_ne hDC'.symm]; exact hfC) ?_ (Nat.le_trans hlo hCD) ?_ ?_
        · intro z; have := I2.lt; rw [← z, hD] at this; exact Nat.lt_irrefl _ (Nat.lt_of_lt_of_le this hCD)
        · intro x c e z
          obtain ⟨v, q⟩ := I2.cell x c e
          have := q.lt
          rw [z, hD] at this; exact Nat.lt_irrefl _ (Nat.lt_of_lt_of_le this hCD)
        · intro p hp z
          have := Heap.lt_size (I2.pin p hp).1
          rw [z, hD] at this; exact Nat.lt_irrefl _ (Nat.lt_of_lt_of_le this hCD)
      · have hit := T.item Xb xP xW xK xC i [(Dd, lobj its)] s3 τ H3 (fun _ _ => False) I3 (fok fr3) st3 go
        rw [xA] at hit
        refine thn hit fun r s4 ⟨u, hr, h4⟩ => ?_
        subst hr
        refine thn h4 fun _ s5 ⟨x, H5, I5, r5, y5, st5, fr5⟩ => ?_
        have I5' := I5.pinned (fok fr5) (T.obj _ _ st5)
        have ga := hg' _ s5 τ H5 x u _ I5' r5 (step x H5 y5)
        rw [xP, xW, xA, xE, xX] at ga
        refine thn ga fun _ s6 ⟨τ6, H6, I6, q6⟩ => ?_
        have fa := hf' _ s6 τ6 H6 _ I6 q6
        rw [xP, xW, xA, xE, xX] at fa
        refine thn fa fun ok s7 ⟨H7, I7, q7⟩ => ?_
        have back : ∀ {τ8 : L2.St} {H8 : Hp} {s8 : Shared}, Inv Xb ([(Dd, lobj its)] ++ pinsAt fp s5.heap) τ8 H8 s8 → tn (i + 1) s8.heap ∧ (∀ b ∈ fp, H8 b = none) := fun {τ8 H8 s8} I8 =>
          ⟨T.keep _ _ _ st5 fun b hb o e => (I8.pin (b, o) (List.mem_append_right _ (List.mem_append_right _ (mem_pinsAt hb e)))).1, fun b hb => by
            obtain ⟨o, e, d⟩ := T.obj _ _ st5 b hb
            exact (I8.pin (b, o) (List.mem_append_right _ (List.mem_append_right _ (mem_pinsAt hb e)))).2.1⟩
        cases ok with
        | false =>
          rw [if_neg (by simp)] at q7 ⊢
          obtain ⟨m', hm, w7⟩ := hN _ _ _ q7
          obtain ⟨b1, b2⟩ := back I7
          exact ⟨m', hm, i + 1, ys, τ6, H7, its, I7.unpinned, b1, b2, hv, hz, w7⟩
        | true =>
          rw [if_pos rfl] at q7 ⊢
          have ea := he' _ s7 τ6 H7 _ I7 q7
          rw [xP, xW, xA, xE, xX] at ea
          refine thn ea fun yv s8 ⟨y, H8, I8, r8, hlt, n8⟩ => ?_
          have pD8 := I8.pin (Dd, lobj its) (List.mem_append_right _ (List.mem_append_left _ (List.mem_singleton.mpr rfl)))
          have hil : its.length = ys.length := hv.length.symm
          refine append_at (hsz := by rw [List.size_toArray]; omega) pD8.1 fun h' hs' ho' => ?_
          obtain ⟨m', hm, w8⟩ := hN _ _ _ n8
          obtain ⟨b1, b2⟩ := back I8
          have J1 : Inv Xb [] τ6 H8 s8 := I8.pins_of (fun p hp => nomatch hp)
          have J2 : Inv Xb [] τ6 H8 { s8 with heap := h' } := J1.turned (t' := s8.toks) (it := Dd) (fun b o hb e => (hs'.2 b hb).trans e) pD8.2.1 pD8.2.2.1 (.inr (by rw [xS, hD]; exact Nat.le_refl _)) (fun y c q => hDcell y c (xCl y c q)) fun p hp => by
            rw [xPn, List.append_nil] at hp
            exact hDpin p hp
          refine ⟨m', hm, i + 1, ys ++ [y], τ6, H8, its ++ [yv], J2.pins_of fun p hp => ?_, T.keep _ _ _ b1 fun b hb o e => (hs'.2 b (fpne b hb)).trans e, b2, hv.append (.cons r8 .nil), by rw [List.length_append, List.length_singleton]; omega, w8⟩
          rw [List.mem_singleton.mp hp]
          refine ⟨?_, pD8.2.1, pD8.2.2.1, pD8.2.2.2.1, fun v z => nomatch z⟩
          show h'.get? Dd = some (lobj (its ++ [yv]))
          rw [ho']
          show some ({ cls := .type "list", data := .seq (its.toArray.push yv) (its.length + 1) } : Obj) = some { cls := .type "list", data := .seq (its ++ [yv]).toArray (its ++ [yv]).length }
          rw [List.length_append, List.length_singleton, List.push_toArray]
    · rw [List.mem_singleton.mp hp]
      refine ⟨hacc, hDfree, ?_, ?_, fun v z => nomatch z⟩
      · rw [xL]; rw [← hCC, ← hD]; rw [← hCC, ← hD] at hDC; exact hDC
      · rw [xFs]; exact hDfs
  exact codeAny_compStart_list loop (T.self X.A 0 _ _ _ st4 loop)

theorem pe_comp {elt iter tg : Expr} {ifs : List Expr} {scope : Scope} {pos : Pos} {cl : List (Str × Addr)} {N' : List Str} {js : List (Option Nat)} {wi : TI} {g : TG} {tf : TT} {te : TE} (hc : X.calm = true) (B : Blk X scope cl N' js) (hi : PI X tg iter wi)
    (hg : ∀ C s₀ H₀ ex pn, PG (blk X scope cl N' C s₀ H₀ ex pn) tg g) (hf : ∀ C s₀ H₀ ex pn, PF (blk X scope cl N' C s₀ H₀ ex pn) ifs tf) (he : ∀ C s₀ H₀ ex pn, PE (blk X scope cl N' C s₀ H₀ ex pn) elt te)
    (hs : ∀ x, foldedSetIterable iter X.env x = pure x := by intro _; rfl) : PE X (.ListComp elt [⟨tg, iter, ifs, 0⟩] scope pos) (tComp js wi g tf te) := by
  intro pins s σ H Q I h
  rw [eval_ListComp]
  refine wpAny_comprehension_free (use := none) rfl hs B.clos B.kind B.names (thn (hi pins s σ H _ I h) fun xv s1 h1 => thn h1 fun itv s2 h2 => ?_)
  obtain ⟨it, fp, tn, J, H2, e, I2, T, st2, f2, cg⟩ := h2
  subst e
  refine comp_core (RR := fun acc C => compPost (model X.prog X.w) X.A X.xe none (EP X pins σ Q) acc C) hc B hg hf he I2 T st2 f2 cg ?_
  intro Dd Cc m s4 Hx IX q hn hC cL cS cC cP
  refine ⟨m, hn, fun h' hs' => ⟨.ref Dd, Hx, ?_, rfl, q⟩⟩
  exact IX.turned (t' := s4.toks) (it := Cc) (fun b o hb e => (hs'.2 b hb).trans e) hC cL (.inr cS) cC cP
theorem ps_compset {i : Nat} {y : Str} {elt iter tg : Expr} {ifs : List Expr} {scope : Scope} {pos spos py : Pos} {cl : List (Str × Addr)} {N' : List Str} {js : List (Option Nat)} {wi : TI} {g : TG} {tf : TT} {te : TE} (hN : X.N.Nodup) (hy : X.N[i]? = some y) (hx : Loc X.env.scope y)
    (hsw : swapsWith (.ListComp elt [⟨tg, iter, ifs, 0⟩] scope pos) (some (.Name y py)) spos.line X.env = pure true) (hc : X.calm = true) (B : Blk X scope cl N' js) (hi : PI X tg iter wi)
    (hg : ∀ C s₀ H₀ ex pn, PG (blk X scope cl N' C s₀ H₀ ex pn) tg g) (hf : ∀ C s₀ H₀ ex pn, PF (blk X scope cl N' C s₀ H₀ ex pn) ifs tf) (he : ∀ C s₀ H₀ ex pn, PE (blk X scope cl N' C s₀ H₀ ex pn) elt te)
    (hs : ∀ x, foldedSetIterable iter X.env x = pure x := by intro _; rfl) (hfn : X.fn y = true ∨ X.env.scope.names.lookup y = some .local := by first | exact .inl rfl | exact .inr rfl | assumption) :
    PS X (.Assign [.Name y py] (.ListComp elt [⟨tg, iter, ifs, 0⟩] scope pos) spos) (tAsg (tComp js wi g tf te) (gName i)) := by
  intro pins s σ H D I h
  rw [exec_Assign_Name_used _ _ _ _ hsw]
  refine wpAny_bind (wpAny_standAt (wpAny_bind ?_))
  show wpAny _ X.A (do let _ ← comprehension (.ListComp elt [⟨tg, iter, ifs, 0⟩] scope pos) scope X.env _ (newList []) false (eval iter X.env) (some (assign (.Name y py) X.env))) _ _ s
  refine wpAny_bind (wpAny_mono (wpAny_comprehension_free (use := some (assign (.Name y py) X.env)) (Q := fun _ s' => SP X pins D .next s') rfl hs B.clos B.kind B.names
    (thn (hi pins s σ H _ I h) fun xv s1 h1 => thn h1 fun itv s2 h2 => ?_)) (fun _ s' hq => wpAny_pure (wpAny_pure hq)) fun _ _ e => e)
  obtain ⟨it, fp, tn, J, H2, e, I2, T, st2, f2, cg⟩ := h2
  subst e
  refine comp_core (RR := fun acc C => compPost (model X.prog X.w) X.A X.xe (some (assign (.Name y py) X.env)) (fun _ s' => SP X pins D .next s') acc C) hc B hg hf he I2 T st2 f2 cg ?_
  intro Dd Cc m s4 Hx IX q hn hC cL cS cC cP
  show wpAny _ X.A (assign (.Name y py) X.env (.ref Dd)) _ _ _
  refine wpAny_assign_Name (store_ok2 IX hN hy hx (v := .ref Dd) rfl (fun s5 I5 ⟨b, hb, hb'⟩ => ?_) hfn)
  have hCb : Cc ≠ b := fun z => by
    rcases hb' with w | w
    · exact cL (z.trans w)
    · exact cC y b w z.symm
  refine ⟨m, hn.sameBut hb hCb, fun h' hs' => ⟨_, Hx, I5.turned (t' := s5.toks) (it := Cc) (fun b o hb e => (hs'.2 b hb).trans e) hC cL (.inr cS) cC cP, q⟩⟩
end
/-! ### a block from checks -/
def capt (env : Env) : List (Str × NameKind) → List (Str × Addr) → List (Str × Addr)
  | [], acc => acc
  | (n, k) :: r, acc => capt env r (if k == .free then (match env.cells.lookup n with | some c => (n, c) :: acc | none => acc) else acc)
theorem lookup_cons' {n y : Str} {c : Addr} {acc : List (Str × Addr)} : ((n, c) :: acc).lookup y = if y == n then some c else acc.lookup y := by
  rw [List.lookup_cons]; cases y == n <;> rfl
theorem capt_sub {env : Env} : ∀ (names : List (Str × NameKind)) (acc : List (Str × Addr)), (∀ y c, acc.lookup y = some c → env.cells.lookup y = some c) → ∀ y c, (capt env names acc).lookup y = some c → env.cells.lookup y = some c
  | [], acc, h, y, c, e => h y c e
  | (n, k) :: r, acc, h, y, c, e => by
    unfold capt at e
    refine capt_sub r _ (fun y c q => ?_) y c e
    split at q
    · split at q
      · rename_i c' hc
        rw [lookup_cons'] at q
        split at q
        · rename_i hy
          cases q
          rw [eq_of_beq hy]; exact hc
        · exact h y c q
      · exact h y c q
    · exact h y c q
theorem capt_keep {env : Env} {y : Str} : ∀ (names : List (Str × NameKind)) (acc : List (Str × Addr)), (∃ c, acc.lookup y = some c) → ∃ c, (capt env names acc).lookup y = some c
  | [], acc, h => h
  | (n, k) :: r, acc, h => by
    unfold capt
    refine capt_keep r _ ?_
    split
    · split
      · rw [lookup_cons']
        split
        · exact ⟨_, rfl⟩
        · exact h
      · exact h
    · exact h
theorem capt_has {env : Env} {y : Str} (hy : (env.cells.lookup y).isSome = true) : ∀ (names : List (Str × NameKind)) (acc : List (Str × Addr)), (y, NameKind.free) ∈ names → ∃ c, (capt env names acc).lookup y = some c
  | (n, k) :: r, acc, h => by
    unfold capt
    rcases List.mem_cons.mp h with z | z
    · cases z
      refine capt_keep r _ ?_
      obtain ⟨c, hc⟩ := Option.isSome_iff_exists.mp hy
      rw [if_pos (by rfl), hc]
      exact ⟨c, by rw [lookup_cons', if_pos (beq_self_eq_true y)]⟩
    · exact capt_has hy r _ z
theorem relabel_free {scope : Scope} {env : Env} {y : Str} (h0 : ∀ z ∈ scope.names, z.2 ≠ .cell) (h : (relabel scope env).names.lookup y = some .cell ∨ (relabel scope env).names.lookup y = some .free) : (y, NameKind.free) ∈ scope.names := by
  have mem : ∃ k, (k = NameKind.cell ∨ k = NameKind.free) ∧ (y, k) ∈ (relabel scope env).names := by
    rcases h with h | h
    · exact ⟨_, .inl rfl, PySem.mem_of_lookup h⟩
    · exact ⟨_, .inr rfl, PySem.mem_of_lookup h⟩
  obtain ⟨k, hk, hm⟩ := mem
  unfold relabel at hm
  obtain ⟨⟨n, k'⟩, hm', e⟩ := List.mem_map.mp hm
  simp only at e
  split at e
  · rename_i hc
    cases e
    have : k' = .free := by
      simp only [Bool.and_eq_true, beq_iff_eq] at hc
      exact hc.1.1
    rw [← this]; exact hm'
  · cases e
    rcases hk with rfl | rfl
    · exact absurd rfl (h0 _ hm')
    · exact hm'
def chkFree (scope : Scope) (env : Env) : Bool := scope.names.all fun y => y.2 != .free || (env.cells.lookup y.1).isSome
def chkLent (X : Cx) (scope : Scope) : List Str → List (Option Nat) → Bool
  | [], [] => true
  | y :: N, o :: js => (match o with
    | none => true
    | some j => X.N[j]? == some y && (X.env.scope.names.lookup y == some .cell || X.env.scope.names.lookup y == some .free) && (relabel scope X.env).names.lookup y != some .local) && chkLent X scope N js
  | _, _ => false
theorem chkLent_at {X : Cx} {scope : Scope} : ∀ {N : List Str} {js : List (Option Nat)}, chkLent X scope N js = true → js.length = N.length ∧ ∀ (i : Nat) y j, N[i]? = some y → js[i]? = some (some j) → X.N[j]? = some y ∧ Vis X.env.scope y ∧ X.env.scope.names.lookup y ≠ some .local ∧ (relabel scope X.env).names.lookup y ≠ some .local
  | [], [], _ => ⟨rfl, fun i y j h => by simp at h⟩
  | [], _ :: _, h => by simp [chkLent] at h
  | _ :: _, [], h => by simp [chkLent] at h
  | z :: N, o :: js, h => by
    unfold chkLent at h
    rw [Bool.and_eq_true] at h
    obtain ⟨l, t⟩ := chkLent_at h.2
    refine ⟨by rw [List.length_cons, List.length_cons, l], fun i y j h1 h2 => ?_⟩
    cases i with
    | zero =>
      simp at h1 h2
      subst h1 h2
      have h' := h.1
      simp only [Bool.and_eq_true, Bool.or_eq_true, beq_iff_eq, bne_iff_ne] at h'
      refine ⟨h'.1.1, ?_, ?_, h'.2⟩
      · rcases h'.1.2 with q | q
        · exact .inr (.inl q)
        · exact .inr (.inr q)
      · rcases h'.1.2 with q | q <;> rw [q] <;> decide
    | succ i => exact t i y j (by simpa using h1) (by simpa using h2)
theorem blk_mk {X : Cx} {scope : Scope} {N' : List Str} {js : List (Option Nat)} (clos : closureFor scope X.env = pure (capt X.env scope.names [])) (nocell : ∀ y ∈ scope.names, y.2 ≠ .cell) (kind : scope.kind = .function)
    (names : ∀ y ∈ scope.names, y.2 = .local → scope.names.lookup y.1 = some .local) (free : chkFree scope X.env = true) (lent : chkLent X scope N' js = true) : Blk X scope (capt X.env scope.names []) N' js where
  clos := clos
  nocell := nocell
  kind := kind
  names := names
  sub := capt_sub _ _ fun y c e => nomatch e
  has := fun y h => by
    have hm := relabel_free nocell h
    have hf := List.all_eq_true.mp free _ hm
    exact capt_has (by simpa using hf) _ _ hm
  len := (chkLent_at lent).1
  lent := (chkLent_at lent).2
theorem comp_list {K : PySem.W.Frag} {a : Addr} {xs : List V} {g : TG} {tf : TT} {te : TE} {τ : L2.St} {H : Hp} {Q : VK} (Pv : Nat → List V → L2.St → Hp → Prop) (h0 : Pv 0 [] τ H) (hl : ∀ i ys τ H, Pv i ys τ H → SqL K H a xs)
    (hs : ∀ i x ys τ H, xs[i]? = some x → Pv i ys τ H → g x τ H fun τ2 H2 => tf τ2 H2 fun b H3 => if b = true then te τ2 H3 fun y H4 => ys.length < sizeLine ∧ Pv (i + 1) (ys ++ [y]) τ2 H4 else Pv (i + 1) ys τ2 H3)
    (hd : ∀ ys τ H, Pv xs.length ys τ H → ∀ p, H p = none → Q (.ref p) (upd H p (.lst ys))) :
    CompGo (Itl K a) g tf te Q τ H := by
  refine ⟨fun i m ys τ H => m = xs.length - i ∧ i ≤ xs.length ∧ Pv i ys τ H, ⟨xs.length, by simp, Nat.zero_le _, h0⟩, ?_⟩
  rintro i m ys τ H ⟨rfl, hi, p⟩
  have q := hl i ys τ H p
  by_cases hlt : i < xs.length
  · refine .inr ⟨⟨xs, xs[i], q, by simp [hlt]⟩, Pv (i + 1), fun ys' τ' H' p' => ⟨xs.length - (i + 1), by omega, rfl, hlt, p'⟩, fun x H' y => ?_⟩
    obtain ⟨e, y⟩ := y
    subst e
    exact hs i x ys τ _ (y xs q) p
  · have e : i = xs.length := by omega
    subst e
    exact .inl ⟨⟨xs, q, Nat.le_refl _⟩, hd ys τ H p⟩
end L3

/-! min and max of a list of texts. -/
namespace L3
open PySem PySem.Spec PyProof.Rows L2
section
variable {prog : Program} {w : World} {A : Around} {E : Value → Shared → Prop} {s : Shared} {l : Addr} {xs : Array Value}
end
section
variable {X : Cx}
theorem strsAre_of : ∀ {xs : List Str} {us : List Value}, Vals (xs.map V.str) us → StrsAre us xs
  | [], _, r => by cases r; exact .nil
  | x :: xs, _, r => by
    cases r with
    | cons r1 r2 =>
      obtain ⟨t, rfl⟩ := r1
      exact .cons x t (strsAre_of r2)
def rJoin (K : PySem.W.Frag) : V → List V → Hp → VK → Prop := fun x vs H Q => ∃ z p ys, x = .str z ∧ vs = [.ref p] ∧ SqL K H p (ys.map V.str) ∧ (ys.map (·.length)).sum + ys.length * z.length ≤ 16777216 ∧ Q (.str (Txt.join z ys)) H
theorem mt_join : MtR X "str.join" (rJoin X.K) := by
  intro pins s σ H x vs v us Q I rx rv h
  obtain ⟨z, p, ys, rfl, rfl, hq, hz, q⟩ := h
  obtain ⟨t, rfl⟩ := rx
  obtain ⟨u, rfl, ru⟩ := vals1 rv
  cases ru
  obtain ⟨its, ri, pl, _⟩ := I.list hq
  exact join_list pl.isList (by simpa using strsAre_of ri) hz fun t' k => ⟨.str (Txt.join z ys), H, I.tok _, ⟨_, rfl⟩, q⟩
end
end L3

/-! xs[::-1] of a list. -/
namespace L3
open PySem PySem.Spec PyProof.Rows L2
section
variable {X : Cx} {e st : Expr} {te ts : TE} {pos p2 : Pos}
end
end L3

/-! The table of a set: where a hash is looked for, and that the first free place is found. -/
namespace ST
open PySem PySem.SetTable
def it : Nat → Nat → Nat
  | 0, x => x
  | n + 1, x => it n (5 * x + 1)
theorem it_add : ∀ m n x, it (m + n) x = it n (it m x)
  | 0, n, x => by rw [Nat.zero_add]; rfl
  | m + 1, n, x => by rw [Nat.succ_add]; exact it_add m n (5 * x + 1)
theorem it_pow (k : Nat) : ∃ a, a % 2 = 1 ∧ ∀ y, it (2 ^ k) y = y + 2 ^ k * a * (4 * y + 1) := by
  induction k with
  | zero => exact ⟨1, rfl, fun y => by show 5 * y + 1 = y + 1 * 1 * (4 * y + 1); omega⟩
  | succ k ih =>
    obtain ⟨a, ha, h⟩ := ih
    refine ⟨a * (1 + 2 ^ (k + 1) * a), ?_, fun y => ?_⟩
    · rw [Nat.mul_mod, ha, Nat.pow_succ, Nat.mul_comm (2 ^ k) 2, Nat.mul_assoc]
      omega
    · rw [Nat.pow_succ, Nat.mul_two, it_add, h, h]
      grind
theorem reach_mod (k : Nat) : ∀ x j, j < 2 ^ k → ∃ n, n < 2 ^ k ∧ it n x % 2 ^ k = j := by
  induction k with
  | zero => intro x j h; exact ⟨0, by decide, by simp at h; subst h; simp [Nat.mod_one]⟩
  | succ k ih =>
    intro x j h
    have hp : 0 < 2 ^ k := Nat.two_pow_pos k
    have e : 2 ^ (k + 1) = 2 ^ k * 2 := Nat.pow_succ ..
    obtain ⟨n, hn, hx⟩ := ih x (j % 2 ^ k) (Nat.mod_lt _ hp)
    obtain ⟨a, ha, hi⟩ := it_pow k
    rw [e] at h ⊢
    generalize 2 ^ k = N at *
    have small : ∀ r, r < N * 2 → r % N = if r < N then r else r - N := fun r hr => by
      split
      · exact Nat.mod_eq_of_lt ‹_›
      · rw [Nat.mod_eq_sub_mod (by omega), Nat.mod_eq_of_lt (by omega)]
    have r0 : it n x % (N * 2) < N * 2 := Nat.mod_lt _ (by omega)
    have r1 : it n x % (N * 2) % N = j % N := by rw [Nat.mod_mod_of_dvd _ ⟨2, rfl⟩]; exact hx
    rw [small _ r0, small _ h] at r1
    by_cases c : it n x % (N * 2) = j
    · exact ⟨n, by omega, c⟩
    · refine ⟨n + N, by omega, ?_⟩
      have odd : ∃ b, a * (4 * it n x + 1) = 2 * b + 1 := by
        obtain ⟨c', rfl⟩ : ∃ c', a = 2 * c' + 1 := ⟨a / 2, by omega⟩
        exact ⟨c' * (4 * it n x + 1) + 2 * it n x, by grind⟩
      obtain ⟨b, hb⟩ := odd
      have e2 : it (n + N) x = it n x + N + N * 2 * b := by
        rw [it_add, hi, Nat.mul_assoc, hb]; grind
      rw [e2, Nat.add_mul_mod_self_left, Nat.add_mod, Nat.mod_eq_of_lt (show N < N * 2 by omega)]
      generalize it n x % (N * 2) = r at *
      split at r1 <;> split at r1
      · omega
      · have : j = r + N := by omega
        rw [this, Nat.mod_eq_of_lt (by omega)]
      · have : r = j + N := by omega
        rw [this, show j + N + N = j + N * 2 by omega, Nat.add_mod_right, Nat.mod_eq_of_lt h]
      · omega

/-! ### the places that are looked at -/
def adv (mask : Nat) (p : Probe) : Probe :=
  if p.more > 0 then { p with j := p.j + 1, more := p.more - 1 } else
  { p with j := (leap mask p.i p.perturb).1, more := runEnd mask (leap mask p.i p.perturb).1 - (leap mask p.i p.perturb).1, i := (leap mask p.i p.perturb).1, perturb := (leap mask p.i p.perturb).2 }
theorem advance_eq (t : SetTable) (p : Probe) : t.advance p = adv t.mask p := by
  unfold advance adv
  split <;> rfl
def blockAt (mask i perturb : Nat) : Probe := { j := i, more := runEnd mask i - i, i, perturb, dummy := none }
def st (mask : Nat) (h : Int) : Probe := blockAt mask (bits h % (mask + 1)) (bits h)
def itr (mask : Nat) : Nat → Probe → Probe
  | 0, p => p
  | n + 1, p => itr mask n (adv mask p)
theorem itr_succ (mask : Nat) : ∀ n p, itr mask (n + 1) p = adv mask (itr mask n p)
  | 0, _ => rfl
  | n + 1, p => itr_succ mask n (adv mask p)
theorem itr_add (mask : Nat) : ∀ m n p, itr mask (m + n) p = itr mask n (itr mask m p)
  | 0, n, p => by rw [Nat.zero_add]; rfl
  | m + 1, n, p => by rw [Nat.succ_add]; exact itr_add mask m n (adv mask p)
def pos (mask : Nat) (h : Int) (n : Nat) : Nat := (itr mask n (st mask h)).j
theorem itr_run (mask : Nat) : ∀ r (p : Probe), r ≤ p.more → itr mask r p = { p with j := p.j + r, more := p.more - r }
  | 0, p, _ => rfl
  | r + 1, p, h => by
    show itr mask r (adv mask p) = _
    have e : adv mask p = { p with j := p.j + 1, more := p.more - 1 } := by unfold adv; rw [if_pos (by omega)]
    rw [e, itr_run mask r _ (by show r ≤ p.more - 1; omega)]
    show ({ j := p.j + 1 + r, more := p.more - 1 - r, i := p.i, perturb := p.perturb, dummy := p.dummy } : Probe) = { j := p.j + (r + 1), more := p.more - (r + 1), i := p.i, perturb := p.perturb, dummy := p.dummy }
    congr 1 <;> omega
theorem more_le (mask i : Nat) : runEnd mask i - i ≤ 9 := by unfold runEnd; split <;> omega
theorem itr_block (mask i perturb : Nat) : itr mask (runEnd mask i - i + 1) (blockAt mask i perturb) = blockAt mask (leap mask i perturb).1 (leap mask i perturb).2 := by
  rw [itr_succ, itr_run mask (runEnd mask i - i) (blockAt mask i perturb) (show runEnd mask i - i ≤ runEnd mask i - i from Nat.le_refl _)]
  unfold adv
  rw [if_neg (by show ¬ (runEnd mask i - i - (runEnd mask i - i) > 0); omega)]
  rfl
def bk (mask : Nat) : Nat → Nat × Nat → Nat × Nat
  | 0, x => x
  | m + 1, x => bk mask m (leap mask x.1 x.2)
theorem bk_add (mask : Nat) : ∀ m n x, bk mask (m + n) x = bk mask n (bk mask m x)
  | 0, n, x => by rw [Nat.zero_add]; rfl
  | m + 1, n, x => by rw [Nat.succ_add]; exact bk_add mask m n _
theorem block_at (mask : Nat) : ∀ m i p, ∃ n, n ≤ 10 * m ∧ itr mask n (blockAt mask i p) = blockAt mask (bk mask m (i, p)).1 (bk mask m (i, p)).2
  | 0, i, p => ⟨0, Nat.zero_le _, rfl⟩
  | m + 1, i, p => by
    obtain ⟨n, hn, e⟩ := block_at mask m (leap mask i p).1 (leap mask i p).2
    have h9 := more_le mask i
    refine ⟨runEnd mask i - i + 1 + n, by omega, ?_⟩
    rw [itr_add, itr_block, e]
    rfl
theorem bk_perturb (mask : Nat) : ∀ m i p, (bk mask m (i, p)).2 = p / 32 ^ m
  | 0, i, p => by simp [bk]
  | m + 1, i, p => by
    show (bk mask m ((leap mask i p).1, (leap mask i p).2)).2 = _
    rw [bk_perturb mask m]
    show p / 32 / 32 ^ m = p / 32 ^ (m + 1)
    rw [Nat.div_div_eq_div_mul, Nat.pow_succ, Nat.mul_comm]
theorem bk_zero (mask : Nat) : ∀ m x, x < mask + 1 → (bk mask m (x, 0)).1 = it m x % (mask + 1)
  | 0, x, h => by show x = x % (mask + 1); rw [Nat.mod_eq_of_lt h]
  | m + 1, x, h => by
    show (bk mask m ((x * 5 + 1 + 0 / 32) % (mask + 1), 0 / 32)).1 = it m (5 * x + 1) % (mask + 1)
    rw [Nat.zero_div, Nat.add_zero, bk_zero mask m _ (Nat.mod_lt _ (by omega))]
    have go : ∀ m a b, a % (mask + 1) = b % (mask + 1) → it m a % (mask + 1) = it m b % (mask + 1) := fun m => by
      induction m with
      | zero => intro a b h; exact h
      | succ m ih => intro a b h; exact ih _ _ (by rw [Nat.add_mod, Nat.mul_mod, h, ← Nat.mul_mod, ← Nat.add_mod])
    refine go m _ _ ?_
    rw [Nat.mod_mod, Nat.mul_comm]
theorem bits_lt (h : Int) : bits h < 2 ^ 64 := by unfold bits; omega
theorem covers {mask k : Nat} (hm : mask + 1 = 2 ^ k) (h : Int) {j : Nat} (hj : j ≤ mask) : ∃ n, n < 10 * (mask + 14) ∧ pos mask h n = j := by
  have hp : (bk mask 13 (bits h % (mask + 1), bits h)).2 = 0 := by
    rw [bk_perturb]
    refine Nat.div_eq_of_lt (Nat.lt_of_lt_of_le (bits_lt h) (by decide))
  have hlt : (bk mask 13 (bits h % (mask + 1), bits h)).1 < mask + 1 := by
    show (bk mask (12 + 1) _).1 < _
    rw [bk_add]
    show (leap mask _ _).1 < _
    exact Nat.mod_lt _ (by omega)
  generalize hX : bk mask 13 (bits h % (mask + 1), bits h) = X at hp hlt
  obtain ⟨x, p⟩ := X
  dsimp only at hp hlt
  subst hp
  obtain ⟨n, hn, e⟩ := reach_mod k x j (by omega)
  rw [← hm] at hn e
  obtain ⟨m, hm', em⟩ := block_at mask (13 + n) (bits h % (mask + 1)) (bits h)
  refine ⟨m, by omega, ?_⟩
  show (itr mask m (st mask h)).j = j
  unfold st
  rw [em, bk_add, hX]
  show (bk mask n (x, 0)).1 = j
  rw [bk_zero _ _ _ hlt, e]
theorem least {P : Nat → Prop} : ∀ b, (∃ n, n < b ∧ P n) → ∃ n, n < b ∧ P n ∧ ∀ m, m < n → ¬ P m
  | 0, ⟨_, h, _⟩ => absurd h (Nat.not_lt_zero _)
  | b + 1, ⟨n, hn, hp⟩ => by
    rcases Classical.em (∃ n, n < b ∧ P n) with c | c
    · obtain ⟨m, h1, h2, h3⟩ := least b c
      exact ⟨m, by omega, h2, h3⟩
    · have e : n = b := by
        rcases Nat.lt_or_ge n b with z | z
        · exact absurd ⟨n, z, hp⟩ c
        · omega
      subst e
      exact ⟨n, by omega, hp, fun m hm q => c ⟨m, hm, q⟩⟩
theorem first_free {mask k : Nat} (hm : mask + 1 = 2 ^ k) (h : Int) {occ : List Nat} (ho : ∃ j, j ≤ mask ∧ j ∉ occ) : ∃ n, n < 10 * (mask + 14) ∧ pos mask h n ∉ occ ∧ ∀ m, m < n → pos mask h m ∈ occ := by
  obtain ⟨j, hj, hn⟩ := ho
  obtain ⟨n, h1, h2⟩ := covers hm h hj
  obtain ⟨m, a, b, c⟩ := least (P := fun n => pos mask h n ∉ occ) (10 * (mask + 14)) ⟨n, h1, by show pos mask h n ∉ occ; rw [h2]; exact hn⟩
  exact ⟨m, a, b, fun q hq => Classical.byContradiction fun z => c q hq z⟩
theorem pos_le (mask : Nat) (h : Int) : ∀ n, pos mask h n ≤ mask ∧ (itr mask n (st mask h)).j + (itr mask n (st mask h)).more ≤ mask
  | 0 => by
    have h1 : bits h % (mask + 1) < mask + 1 := Nat.mod_lt _ (by omega)
    refine ⟨by show bits h % (mask + 1) ≤ mask; omega, ?_⟩
    show bits h % (mask + 1) + (runEnd mask (bits h % (mask + 1)) - bits h % (mask + 1)) ≤ mask
    unfold runEnd; split <;> omega
  | n + 1 => by
    obtain ⟨_, ih⟩ := pos_le mask h n
    unfold pos
    rw [itr_succ]
    generalize itr mask n (st mask h) = p at *
    unfold adv
    split
    · exact ⟨by show p.j + 1 ≤ mask; omega, by show p.j + 1 + (p.more - 1) ≤ mask; omega⟩
    · have h1 : (leap mask p.i p.perturb).1 < mask + 1 := Nat.mod_lt _ (by omega)
      generalize (leap mask p.i p.perturb).1 = i at *
      refine ⟨by show i ≤ mask; omega, ?_⟩
      show i + (runEnd mask i - i) ≤ mask
      unfold runEnd; split <;> omega
theorem itr_dummy (mask : Nat) (h : Int) : ∀ n, (itr mask n (st mask h)).dummy = none
  | 0 => rfl
  | n + 1 => by
    rw [itr_succ]
    have ih := itr_dummy mask h n
    unfold adv
    split <;> exact ih
end ST

namespace ST
open PySem PySem.SetTable
def Ris (xs : List Nat) : Prop := xs.Pairwise (· < ·)
theorem Ris.get {xs : Array Nat} (hr : Ris xs.toList) {i j : Nat} (hi : i < xs.size) (hj : j < xs.size) (h : i < j) : xs[i] < xs[j] := by
  have := List.pairwise_iff_getElem.mp hr i j (by simpa using hi) (by simpa using hj) h
  simpa using this
theorem Ris.get_le {xs : Array Nat} (hr : Ris xs.toList) {i j : Nat} (hi : i < xs.size) (hj : j < xs.size) (h : i ≤ j) : xs[i] ≤ xs[j] := by
  rcases Nat.lt_or_ge i j with c | c
  · exact Nat.le_of_lt (hr.get hi hj c)
  · have : i = j := by omega
    subst this; exact Nat.le_refl _
def Split (xs : Array Nat) (j r : Nat) : Prop := r ≤ xs.size ∧ (∀ i (h : i < xs.size), i < r → xs[i] < j) ∧ ∀ i (h : i < xs.size), r ≤ i → j ≤ xs[i]
theorem below_go {xs : Array Nat} (hr : Ris xs.toList) (j : Nat) : ∀ fuel lo hi, lo ≤ hi → hi ≤ xs.size → hi - lo ≤ fuel → (∀ i (h : i < xs.size), i < lo → xs[i] < j) → (∀ i (h : i < xs.size), hi ≤ i → j ≤ xs[i]) → Split xs j (below.go xs j fuel lo hi)
  | 0, lo, hi, h1, h2, h3, a, b => by
    have : lo = hi := by omega
    subst this
    exact ⟨h2, a, b⟩
  | fuel + 1, lo, hi, h1, h2, h3, a, b => by
    unfold below.go
    by_cases c : lo < hi
    · rw [if_pos c]
      dsimp only
      have hm : (lo + hi) / 2 < xs.size := by omega
      rw [show xs.getD ((lo + hi) / 2) j = xs[(lo + hi) / 2] by simp [Array.getD, hm]]
      by_cases d : xs[(lo + hi) / 2] < j
      · rw [if_pos d]
        exact below_go hr j fuel _ _ (by omega) h2 (by omega) (fun i h q => Nat.lt_of_le_of_lt (hr.get_le h hm (by omega)) d) b
      · rw [if_neg d]
        exact below_go hr j fuel _ _ (by omega) (by omega) (by omega) a (fun i h q => Nat.le_trans (by omega) (hr.get_le hm h q))
    · rw [if_neg c]
      have : lo = hi := by omega
      subst this
      exact ⟨h2, a, b⟩
theorem below_spec {xs : Array Nat} (hr : Ris xs.toList) (j : Nat) : Split xs j (below xs j) :=
  below_go hr j _ _ _ (Nat.zero_le _) (Nat.le_refl _) (by omega) (fun i h q => absurd q (Nat.not_lt_zero _)) (fun i h q => absurd h (by omega))
theorem below_at {xs : Array Nat} (hr : Ris xs.toList) {i j : Nat} (h : xs[i]? = some j) : below xs j = i := by
  obtain ⟨hi, e⟩ := Array.getElem?_eq_some_iff.mp h
  obtain ⟨h1, h2, h3⟩ := below_spec hr j
  rcases Nat.lt_trichotomy (below xs j) i with c | c | c
  · have := h3 _ (by omega) (Nat.le_refl (below xs j))
    have := hr.get (i := below xs j) (j := i) (by omega) hi c
    omega
  · exact c
  · have := h2 i hi c
    omega
theorem slot_live {t : SetTable} (hr : Ris t.place.toList) {i j : Nat} (h : t.place[i]? = some j) : t.slot j = .live i := by
  unfold SetTable.slot
  dsimp only
  rw [below_at hr h, h]
  simp
theorem slot_empty {t : SetTable} (hd : t.dummies = #[]) {j : Nat} (h : j ∉ t.place.toList) : t.slot j = .empty := by
  unfold SetTable.slot
  dsimp only
  have e : (t.place[below t.place j]? == some j) = false := by
    rw [beq_eq_false_iff_ne]
    intro q
    obtain ⟨hi, e⟩ := Array.getElem?_eq_some_iff.mp q
    exact h (by rw [← e]; simp)
  rw [e, hd]
  simp [has]
theorem slot_mem {t : SetTable} (hr : Ris t.place.toList) {j : Nat} (h : j ∈ t.place.toList) : ∃ i, t.place[i]? = some j ∧ t.slot j = .live i := by
  obtain ⟨i, hi, e⟩ := List.getElem_of_mem h
  have : t.place[i]? = some j := by rw [← Array.getElem?_toList, List.getElem?_eq_getElem hi, e]
  exact ⟨i, this, slot_live hr this⟩
theorem pigeon : ∀ (n : Nat) (xs : List Nat), (∀ j, j < n → j ∈ xs) → n ≤ xs.length
  | 0, _, _ => Nat.zero_le _
  | n + 1, xs, h => by
    have hn := h n (by omega)
    have := pigeon n (xs.erase n) fun j hj => (List.mem_erase_of_ne (by omega)).mpr (h j (by omega))
    rw [List.length_erase_of_mem hn] at this
    have : 0 < xs.length := List.length_pos_of_mem hn
    omega
theorem some_free {mask : Nat} {xs : List Nat} (h : xs.length ≤ mask) : ∃ j, j ≤ mask ∧ j ∉ xs := by
  refine Classical.byContradiction fun c => ?_
  have := pigeon (mask + 1) xs fun j hj => Classical.byContradiction fun q => c ⟨j, by omega, q⟩
  omega
structure Good (t : SetTable) (hs : List Int) : Prop where
  pw : ∃ k, 3 ≤ k ∧ t.mask + 1 = 2 ^ k
  dum : t.dummies = #[]
  ris : Ris t.place.toList
  le : ∀ j ∈ t.place.toList, j ≤ t.mask
  len : t.place.size = hs.length
  room : t.place.size ≤ t.mask
  reach : ∀ x ∈ t.place.toList.zip hs, ∃ q, pos t.mask x.2 q = x.1 ∧ ∀ m, m < q → pos t.mask x.2 m ∈ t.place.toList
theorem Good.free {t : SetTable} {hs : List Int} (g : Good t hs) (h : Int) : ∃ n, n < 10 * (t.mask + 14) ∧ pos t.mask h n ∉ t.place.toList ∧ ∀ m, m < n → pos t.mask h m ∈ t.place.toList := by
  obtain ⟨k, _, hk⟩ := g.pw
  exact first_free hk h (some_free (by rw [Array.length_toList]; exact g.room))
theorem Good.odd {t : SetTable} {hs : List Int} (g : Good t hs) : t.gaveWay = false := by
  obtain ⟨k, h3, hk⟩ := g.pw
  obtain ⟨j, rfl⟩ : ∃ j, k = j + 1 := ⟨k - 1, by omega⟩
  rw [Nat.pow_succ] at hk
  unfold SetTable.gaveWay
  rw [beq_eq_false_iff_ne]
  omega
theorem Good.fits {t : SetTable} {hs : List Int} (g : Good t hs) : t.fits hs.length = true := by
  unfold SetTable.fits SetTable.fill
  rw [g.dum, g.len]
  have := g.room
  rw [g.len] at this
  simp [this]
theorem probe_go {t : SetTable} {hs : List Int} (g : Good t hs) (h : Int) {N : Nat} (hN : pos t.mask h N ∉ t.place.toList) (hO : ∀ m, m < N → pos t.mask h m ∈ t.place.toList) (hashAt : Nat → Int) :
    ∀ fuel q, q ≤ N → N - q < fuel →
      (probe.go t hashAt h fuel (itr t.mask q (st t.mask h)) = some (.empty (pos t.mask h N) none) ∧ ∀ m i, q ≤ m → m < N → t.slot (pos t.mask h m) = .live i → hashAt i ≠ h) ∨
      ∃ m i, q ≤ m ∧ m < N ∧ t.slot (pos t.mask h m) = .live i ∧ hashAt i = h ∧ probe.go t hashAt h fuel (itr t.mask q (st t.mask h)) = some (.candidate (pos t.mask h m) i (itr t.mask (m + 1) (st t.mask h))) ∧
        ∀ m' i, q ≤ m' → m' < m → t.slot (pos t.mask h m') = .live i → hashAt i ≠ h
  | 0, q, h1, h2 => absurd h2 (Nat.not_lt_zero _)
  | fuel + 1, q, h1, h2 => by
    unfold probe.go
    by_cases e : q = N
    · subst e
      rw [show t.slot (itr t.mask q (st t.mask h)).j = .empty from slot_empty g.dum hN]
      refine .inl ⟨?_, fun m i a b => absurd b (by omega)⟩
      show some (Met.empty (itr t.mask q (st t.mask h)).j (itr t.mask q (st t.mask h)).dummy) = _
      rw [itr_dummy]; rfl
    · obtain ⟨i, hi, hs'⟩ := slot_mem g.ris (hO q (by omega))
      rw [show t.slot (itr t.mask q (st t.mask h)).j = .live i from hs']
      dsimp only
      rw [show t.advance (itr t.mask q (st t.mask h)) = itr t.mask (q + 1) (st t.mask h) by rw [advance_eq, ← itr_succ]]
      by_cases c : hashAt i = h
      · rw [if_pos (by rw [c]; exact beq_self_eq_true h)]
        exact .inr ⟨q, i, Nat.le_refl _, by omega, hs', c, rfl, fun m' i a b => absurd b (by omega)⟩
      · rw [if_neg (by simpa using c)]
        rcases probe_go g h hN hO hashAt fuel (q + 1) (by omega) (by omega) with ⟨a, b⟩ | ⟨m, i', a1, a2, a3, a4, a5, a6⟩
        · refine .inl ⟨a, fun m i' h1' h2' h3' => ?_⟩
          by_cases z : m = q
          · subst z; rw [hs'] at h3'; cases h3'; exact c
          · exact b m i' (by omega) h2' h3'
        · refine .inr ⟨m, i', by omega, a2, a3, a4, a5, fun m' i'' h1' h2' h3' => ?_⟩
          by_cases z : m' = q
          · subst z; rw [hs'] at h3'; cases h3'; exact c
          · exact a6 m' i'' (by omega) h2' h3'
/-! ### one more -/
theorem toList_insertAt {α : Type} (xs : Array α) (p : Nat) (x : α) : (insertAt xs p x).toList = xs.toList.take p ++ x :: xs.toList.drop p := by
  unfold insertAt
  simp [Array.toList_extract, List.take_of_length_le]
theorem ris_insert {xs : Array Nat} (hr : Ris xs.toList) {j : Nat} (hn : j ∉ xs.toList) : Ris (insertAt xs (below xs j) j).toList := by
  obtain ⟨h1, h2, h3⟩ := below_spec hr j
  rw [toList_insertAt]
  unfold Ris at *
  have low : ∀ a ∈ xs.toList.take (below xs j), a < j := fun a ha => by
    obtain ⟨i, hi, e⟩ := List.getElem_of_mem ha
    rw [List.length_take] at hi
    rw [List.getElem_take] at e
    have := h2 i (by rw [Array.length_toList] at hi; omega) (by omega)
    rw [← e]; simpa using this
  have high : ∀ a ∈ xs.toList.drop (below xs j), j < a := fun a ha => by
    have hm := List.mem_of_mem_drop ha
    obtain ⟨i, hi, e⟩ := List.getElem_of_mem ha
    rw [List.length_drop, Array.length_toList] at hi
    rw [List.getElem_drop] at e
    have := h3 (below xs j + i) (by omega) (by omega)
    have e' : xs[below xs j + i] = a := by rw [← e]; simp
    rcases Nat.lt_or_ge j a with q | q
    · exact q
    · exact absurd (by rw [show j = a by omega]; exact hm) hn
  rw [List.pairwise_append]
  refine ⟨hr.sublist (List.take_sublist _ _), ?_, fun a ha b hb => ?_⟩
  · rw [List.pairwise_cons]
    exact ⟨high, hr.sublist (List.drop_sublist _ _)⟩
  · rcases List.mem_cons.mp hb with rfl | hb
    · exact low a ha
    · exact Nat.lt_trans (low a ha) (high b hb)
def insL {α : Type} (xs : List α) (p : Nat) (x : α) : List α := xs.take p ++ x :: xs.drop p
theorem insL_perm {α : Type} (xs : List α) (p : Nat) (x : α) : (insL xs p x).Perm (x :: xs) := by
  unfold insL
  refine List.perm_middle.trans ?_
  rw [List.take_append_drop]
theorem zip_insL {α β : Type} {xs : List α} {ys : List β} (h : xs.length = ys.length) (p : Nat) (x : α) (y : β) : (insL xs p x).zip (insL ys p y) = insL (xs.zip ys) p (x, y) := by
  unfold insL
  rw [List.zip_append (by simp [h]), List.zip_cons_cons]
  simp only [List.zip, List.take_zipWith, List.drop_zipWith]
theorem Good.put {t : SetTable} {hs : List Int} (g : Good t hs) {h : Int} {n : Nat} (hn : pos t.mask h n ∉ t.place.toList) (ho : ∀ m, m < n → pos t.mask h m ∈ t.place.toList) (hr : t.place.size < t.mask) (pl : Bool) :
    Good { (t.put (pos t.mask h n)).1 with plain := pl } (insL hs (below t.place (pos t.mask h n)) h) := by
  have hl : t.place.toList.length = hs.length := by rw [Array.length_toList]; exact g.len
  have e : (insertAt t.place (below t.place (pos t.mask h n)) (pos t.mask h n)).toList = insL t.place.toList (below t.place (pos t.mask h n)) (pos t.mask h n) := toList_insertAt _ _ _
  have mem : ∀ a, a ∈ (insertAt t.place (below t.place (pos t.mask h n)) (pos t.mask h n)).toList ↔ a = pos t.mask h n ∨ a ∈ t.place.toList := fun a => by
    rw [e, (insL_perm _ _ _).mem_iff, List.mem_cons]
  have ln : (insertAt t.place (below t.place (pos t.mask h n)) (pos t.mask h n)).size = t.place.size + 1 := by
    rw [← Array.length_toList, e, (insL_perm _ _ _).length_eq, List.length_cons, Array.length_toList]
  refine ⟨g.pw, ?_, ris_insert g.ris hn, fun j hj => ?_, ?_, ?_, fun x hx => ?_⟩
  · show (if has t.dummies (pos t.mask h n) = true then eraseAt t.dummies (below t.dummies (pos t.mask h n)) else t.dummies) = #[]
    rw [g.dum]; simp [has]
  · rcases (mem j).mp hj with rfl | q
    · exact (pos_le _ _ _).1
    · exact g.le j q
  · show (insertAt t.place _ _).size = _
    rw [ln, (insL_perm _ _ _).length_eq, List.length_cons, g.len]
  · show (insertAt t.place _ _).size ≤ t.mask
    rw [ln]; exact hr
  · show ∃ q, pos t.mask x.2 q = x.1 ∧ ∀ m, m < q → pos t.mask x.2 m ∈ (insertAt t.place _ _).toList
    have hx' : x ∈ (insertAt t.place (below t.place (pos t.mask h n)) (pos t.mask h n)).toList.zip (insL hs (below t.place (pos t.mask h n)) h) := hx
    rw [e, zip_insL hl, (insL_perm _ _ _).mem_iff, List.mem_cons] at hx'
    rcases hx' with rfl | q
    · exact ⟨n, rfl, fun m hm => (mem _).mpr (.inr (ho m hm))⟩
    · obtain ⟨q', a, b⟩ := g.reach x q
      exact ⟨q', a, fun m hm => (mem _).mpr (.inr (b m hm))⟩
end ST

namespace ST
open PySem PySem.SetTable
/-! ### all laid anew -/
abbrev Ow := Array (Option Nat)
def taken (o : Ow) : List Nat := (List.range o.size).filter fun j => (o.getD j none).isSome
theorem mem_taken {o : Ow} {j : Nat} : j ∈ taken o ↔ ∃ i, o[j]? = some (some i) := by
  unfold taken
  rw [List.mem_filter, List.mem_range]
  constructor
  · rintro ⟨h1, h2⟩
    have e : o.getD j none = o[j] := by simp [Array.getD, h1]
    rw [e] at h2
    obtain ⟨i, hi⟩ := Option.isSome_iff_exists.mp h2
    exact ⟨i, by rw [Array.getElem?_eq_getElem h1, hi]⟩
  · rintro ⟨i, hi⟩
    obtain ⟨h1, e⟩ := Array.getElem?_eq_some_iff.mp hi
    refine ⟨h1, ?_⟩
    simp [Array.getD, h1, e]
theorem free_test {o : Ow} {j : Nat} (h : j < o.size) : ((o.getD j (some 0)).isNone = true ↔ j ∉ taken o) := by
  rw [mem_taken]
  have e : o.getD j (some 0) = o[j] := by simp [Array.getD, h]
  rw [e, Array.getElem?_eq_getElem h]
  cases o[j] <;> simp
theorem free_go {mask : Nat} {o : Ow} (hsz : o.size = mask + 1) (h : Int) : ∀ m fuel i p n, m < fuel → i ≤ mask → itr mask n (st mask h) = blockAt mask i p → (bk mask m (i, p)).1 ∉ taken o →
    ∃ N, n ≤ N ∧ layClean.free mask o fuel i p = some (pos mask h N) ∧ pos mask h N ∉ taken o ∧ ∀ q, n ≤ q → q < N → pos mask h q ∈ taken o
  | m, 0, i, p, n, hf, hi, hn, hb => absurd hf (Nat.not_lt_zero _)
  | m, fuel + 1, i, p, n, hf, hi, hn, hb => by
    have hrun : ∀ k, k ≤ runEnd mask i - i → pos mask h (n + k) = i + k := fun k hk => by
      show (itr mask (n + k) (st mask h)).j = i + k
      rw [itr_add, hn, itr_run mask k (blockAt mask i p) hk]
      rfl
    have hre : i ≤ runEnd mask i ∧ runEnd mask i ≤ mask := by unfold runEnd; split <;> omega
    have ht : ∀ k, k ≤ runEnd mask i - i → ((o.getD (i + k) (some 0)).isNone = true ↔ pos mask h (n + k) ∉ taken o) := fun k hk => by
      rw [hrun k hk]; exact free_test (by omega)
    unfold layClean.free
    cases hf' : (List.range (runEnd mask i + 1 - i)).find? fun k => (o.getD (i + k) (some 0)).isNone with
    | some k =>
      obtain ⟨a, b, c⟩ := List.find?_range_eq_some.mp hf'
      rw [List.mem_range] at b
      refine ⟨n + k, by omega, ?_, (ht k (by omega)).mp a, fun q h1 h2 => ?_⟩
      · rw [hrun k (by omega)]
      · have d := c (q - n) (by omega)
        have z := ht (q - n) (by omega)
        rw [show n + (q - n) = q by omega] at z
        refine Classical.byContradiction fun y => ?_
        rw [z.mpr y] at d
        cases d
    | none =>
      have all : ∀ k, k ≤ runEnd mask i - i → pos mask h (n + k) ∈ taken o := fun k hk => by
        have d := List.find?_range_eq_none.mp hf' k (by omega)
        have z := ht k hk
        refine Classical.byContradiction fun y => ?_
        rw [z.mpr y] at d
        cases d
      dsimp only
      cases m with
      | zero =>
        have := all 0 (Nat.zero_le _)
        rw [hrun 0 (Nat.zero_le _)] at this
        exact absurd this hb
      | succ m =>
        have hl : (leap mask i p).1 ≤ mask := Nat.le_of_lt_succ (Nat.mod_lt _ (by omega))
        obtain ⟨N, a, b, c, d⟩ := free_go hsz h m fuel (leap mask i p).1 (leap mask i p).2 (n + (runEnd mask i - i + 1)) (by omega) hl (by rw [itr_add, hn, itr_block]) hb
        refine ⟨N, by omega, b, c, fun q h1 h2 => ?_⟩
        by_cases z : q < n + (runEnd mask i - i + 1)
        · have := all (q - n) (by omega)
          rwa [show n + (q - n) = q by omega] at this
        · exact d q (by omega) h2
theorem covers_bk {mask k : Nat} (hm : mask + 1 = 2 ^ k) (h : Int) {j : Nat} (hj : j ≤ mask) : ∃ m, m < mask + 15 ∧ (bk mask m (bits h % (mask + 1), bits h)).1 = j := by
  have hp : (bk mask 13 (bits h % (mask + 1), bits h)).2 = 0 := by
    rw [bk_perturb]
    refine Nat.div_eq_of_lt (Nat.lt_of_lt_of_le (bits_lt h) (by decide))
  have hlt : (bk mask 13 (bits h % (mask + 1), bits h)).1 < mask + 1 := by
    show (bk mask (12 + 1) _).1 < _
    rw [bk_add]
    show (leap mask _ _).1 < _
    exact Nat.mod_lt _ (by omega)
  generalize hX : bk mask 13 (bits h % (mask + 1), bits h) = X at hp hlt
  obtain ⟨x, p⟩ := X
  dsimp only at hp hlt
  subst hp
  obtain ⟨n, hn, e⟩ := reach_mod k x j (by omega)
  rw [← hm] at hn e
  refine ⟨13 + n, by omega, ?_⟩
  rw [bk_add, hX]
  show (bk mask n (x, 0)).1 = j
  rw [bk_zero _ _ _ hlt, e]
theorem free_some {mask k : Nat} (hm : mask + 1 = 2 ^ k) {o : Ow} (hsz : o.size = mask + 1) (ho : ∃ j, j ≤ mask ∧ j ∉ taken o) (h : Int) :
    ∃ N, layClean.free mask o (turns mask) (bits h % (mask + 1)) (bits h) = some (pos mask h N) ∧ pos mask h N ∉ taken o ∧ ∀ q, q < N → pos mask h q ∈ taken o := by
  obtain ⟨j, hj, hn⟩ := ho
  obtain ⟨m, h1, h2⟩ := covers_bk hm h hj
  obtain ⟨N, _, b, c, d⟩ := free_go hsz h m (turns mask) (bits h % (mask + 1)) (bits h) 0 (by unfold turns; omega) (Nat.le_of_lt_succ (Nat.mod_lt _ (by omega))) rfl (by rw [h2]; exact hn)
  exact ⟨N, b, c, fun q hq => d q (Nat.zero_le _) hq⟩
structure Laid (mask : Nat) (hs : List Int) (o : Ow) (n : Nat) : Prop where
  sz : o.size = mask + 1
  lt : ∀ j i : Nat, o[j]? = some (some i) → i < n
  all : ∀ i, i < n → ∃ j : Nat, o[j]? = some (some i)
  inj : ∀ j j' i : Nat, o[j]? = some (some i) → o[j']? = some (some i) → j = j'
  reach : ∀ (j i : Nat) (h : Int), o[j]? = some (some i) → hs[i]? = some h → ∃ q, pos mask h q = j ∧ ∀ m, m < q → pos mask h m ∈ taken o
theorem taken_length {mask : Nat} {hs : List Int} {o : Ow} {n : Nat} (L : Laid mask hs o n) : (taken o).length ≤ n := by
  -- an injective list of owners
  have hnd : (taken o).Nodup := List.Nodup.sublist List.filter_sublist List.nodup_range
  have key : ∀ (l : List Nat) (n : Nat), l.Nodup → (∀ j ∈ l, ∃ i : Nat, i < n ∧ o[j]? = some (some i)) → l.length ≤ n := by
    intro l
    induction l with
    | nil => intro n _ _; exact Nat.zero_le _
    | cons a r ih =>
      intro n hd hl
      have own : ∀ j ∈ a :: r, ∃ i : Nat, i < n ∧ o[j]? = some (some i) := hl
      let f : Nat → Nat := fun j => match o[j]? with | some (some i) => i | _ => 0
      have hf : ∀ j ∈ a :: r, o[j]? = some (some (f j)) := fun j hj => by
        obtain ⟨i, _, e⟩ := own j hj
        show o[j]? = some (some (match o[j]? with | some (some i) => i | _ => 0))
        rw [e]
      have h1 : ((a :: r).map f).Nodup := by
        rw [List.nodup_iff_pairwise_ne, List.pairwise_map]
        refine List.Pairwise.imp_of_mem (R := fun x y => x ≠ y) (fun {x y} hx hy hne e => hne ?_) (List.nodup_iff_pairwise_ne.mp hd)
        exact L.inj x y (f x) (hf x hx) (by rw [e]; exact hf y hy)
      have h2 : ∀ i ∈ (a :: r).map f, i < n := fun i hi => by
        obtain ⟨j, hj, rfl⟩ := List.mem_map.mp hi
        obtain ⟨i', h, e⟩ := own j hj
        have := hf j hj
        rw [e] at this; cases this; exact h
      have p : ((a :: r).map f).length ≤ (List.range n).length := List.Nodup.length_le_of_subset h1 fun i hi => List.mem_range.mpr (h2 i hi)
      rwa [List.length_map, List.length_range] at p
  exact key _ n hnd fun j hj => let ⟨i, e⟩ := mem_taken.mp hj; ⟨i, L.lt j i e, e⟩
end ST

namespace ST
open PySem PySem.SetTable
theorem taken_set {o : Ow} {j n : Nat} (hj : j < o.size) (a : Nat) : a ∈ taken (o.setIfInBounds j (some n)) ↔ a = j ∨ a ∈ taken o := by
  rw [mem_taken, mem_taken]
  by_cases e : a = j
  · subst e
    simp [Array.getElem?_setIfInBounds, hj]
  · have : (o.setIfInBounds j (some n))[a]? = o[a]? := by rw [Array.getElem?_setIfInBounds, if_neg (fun h => e h.symm)]
    rw [this]; simp [e]
theorem Laid.more {mask k : Nat} {hs : List Int} {o : Ow} {n : Nat} (hm : mask + 1 = 2 ^ k) (L : Laid mask hs o n) (hn : n ≤ mask) {h : Int} (hh : hs[n]? = some h) :
    ∃ j, layClean.free mask o (turns mask) (bits h % (mask + 1)) (bits h) = some j ∧ Laid mask hs (o.setIfInBounds j (some n)) (n + 1) := by
  obtain ⟨N, a, b, c⟩ := free_some hm L.sz (some_free (Nat.le_trans (taken_length L) hn)) h
  have hj : pos mask h N < o.size := by rw [L.sz]; exact Nat.lt_succ_of_le (pos_le mask h N).1
  refine ⟨_, a, ?_⟩
  generalize hJ : pos mask h N = J at *
  have at_ : ∀ x i : Nat, (o.setIfInBounds J (some n))[x]? = some (some i) → (x = J ∧ i = n) ∨ (x ≠ J ∧ o[x]? = some (some i)) := fun x i e => by
    rw [Array.getElem?_setIfInBounds] at e
    by_cases z : J = x
    · subst z
      rw [if_pos rfl, if_pos hj] at e
      cases e; exact .inl ⟨rfl, rfl⟩
    · rw [if_neg z] at e
      exact .inr ⟨fun q => z q.symm, e⟩
  have hJf : ∀ i, o[J]? ≠ some (some i) := fun i e => b (mem_taken.mpr ⟨i, e⟩)
  refine ⟨by rw [Array.size_setIfInBounds]; exact L.sz, fun x i e => ?_, fun i hi => ?_, fun x y i e1 e2 => ?_, fun x i h' e1 e2 => ?_⟩
  · rcases at_ x i e with ⟨_, rfl⟩ | ⟨_, e⟩
    · exact Nat.lt_succ_self _
    · exact Nat.lt_succ_of_lt (L.lt x i e)
  · by_cases z : i = n
    · subst z
      exact ⟨J, by rw [Array.getElem?_setIfInBounds, if_pos rfl, if_pos hj]⟩
    · obtain ⟨x, e⟩ := L.all i (by omega)
      refine ⟨x, ?_⟩
      rw [Array.getElem?_setIfInBounds, if_neg (fun q => by subst q; exact hJf i e)]
      exact e
  · rcases at_ x i e1 with ⟨rfl, rfl⟩ | ⟨n1, f1⟩
    · rcases at_ y i e2 with ⟨rfl, _⟩ | ⟨n2, e2⟩
      · rfl
      · exact absurd (L.lt y i e2) (Nat.lt_irrefl _)
    · rcases at_ y i e2 with ⟨rfl, rfl⟩ | ⟨n2, f2⟩
      · exact absurd (L.lt x i f1) (Nat.lt_irrefl _)
      · exact L.inj x y i f1 f2
  · rcases at_ x i e1 with ⟨rfl, rfl⟩ | ⟨n1, e1⟩
    · rw [hh] at e2; cases e2
      exact ⟨N, hJ, fun m hm => (taken_set hj _).mpr (.inr (c m hm))⟩
    · obtain ⟨q, q1, q2⟩ := L.reach x i h' e1 e2
      exact ⟨q, q1, fun m hm => (taken_set hj _).mpr (.inr (q2 m hm))⟩
theorem layClean_fold {mask k : Nat} (hm : mask + 1 = 2 ^ k) {hs : List Int} (hl : hs.length ≤ mask + 1) : ∀ (rest pre : List Int) (o : Ow), hs = pre ++ rest → Laid mask hs o pre.length →
    ∃ o', rest.foldl (fun acc h => do let (owner, k) ← acc; let j ← layClean.free mask owner (turns mask) (bits h % (mask + 1)) (bits h); pure (owner.setIfInBounds j (some k), k + 1)) (some (o, pre.length)) = some (o', hs.length) ∧ Laid mask hs o' hs.length
  | [], pre, o, e, L => by
    rw [List.append_nil] at e; subst e
    exact ⟨o, rfl, L⟩
  | h :: rest, pre, o, e, L => by
    have hh : hs[pre.length]? = some h := by rw [e]; simp
    have hlen : pre.length ≤ mask := by
      have := congrArg List.length e
      rw [List.length_append, List.length_cons] at this
      omega
    obtain ⟨j, a, b⟩ := L.more hm hlen hh
    obtain ⟨o', c, d⟩ := layClean_fold hm hl rest (pre ++ [h]) (o.setIfInBounds j (some pre.length)) (by rw [List.append_assoc]; exact e) (by rw [List.length_append]; exact b)
    refine ⟨o', ?_, d⟩
    rw [List.foldl_cons, ← c]
    congr 1
    show (do let j ← layClean.free mask o (turns mask) (bits h % (mask + 1)) (bits h); pure (o.setIfInBounds j (some pre.length), pre.length + 1)) = _
    rw [a, List.length_append]
    rfl
theorem layClean_some {mask k : Nat} (hm : mask + 1 = 2 ^ k) {hs : Array Int} (hl : hs.size ≤ mask + 1) : ∃ o, layClean mask hs = some o ∧ Laid mask hs.toList o hs.size := by
  have L0 : Laid mask hs.toList (Array.replicate (mask + 1) none) ([] : List Int).length :=
    ⟨by simp, fun j i e => by
      rw [Array.getElem?_replicate] at e
      split at e <;> simp at e, fun i hi => absurd hi (Nat.not_lt_zero _), fun j j' i e => by
      rw [Array.getElem?_replicate] at e
      split at e <;> simp at e, fun j i h e => by
      rw [Array.getElem?_replicate] at e
      split at e <;> simp at e⟩
  obtain ⟨o, a, b⟩ := layClean_fold hm (by simpa using hl) hs.toList [] _ rfl L0
  refine ⟨o, ?_, by simpa using b⟩
  unfold layClean
  rw [← Array.foldl_toList]
  show Option.map _ (List.foldl _ (some (Array.replicate (mask + 1) none, ([] : List Int).length)) hs.toList) = _
  rw [a]
  rfl
theorem sizeAbove_go (w : Nat) : ∀ fuel k, w < 2 ^ fuel * 2 ^ k → ∃ k', k ≤ k' ∧ sizeAbove.go w fuel (2 ^ k) = 2 ^ k' ∧ w < 2 ^ k' ∧ (2 ^ k' = 2 ^ k ∨ 2 ^ k' ≤ 2 * w)
  | 0, k, h => ⟨k, Nat.le_refl _, rfl, by simpa using h, .inl rfl⟩
  | fuel + 1, k, h => by
    unfold sizeAbove.go
    by_cases c : 2 ^ k ≤ w
    · rw [if_pos c, ← Nat.pow_succ]
      obtain ⟨k', a, b, d, e⟩ := sizeAbove_go w fuel (k + 1) (by rw [Nat.pow_succ] at h ⊢; rw [Nat.mul_comm (2 ^ k) 2, ← Nat.mul_assoc]; exact h)
      refine ⟨k', by omega, b, d, .inr ?_⟩
      rcases e with e | e
      · rw [e, Nat.pow_succ]; omega
      · exact e
    · rw [if_neg c]
      exact ⟨k, Nat.le_refl _, rfl, by omega, .inl rfl⟩
theorem sizeAbove_spec {w : Nat} (h : w < 2 ^ 60) : ∃ k, 3 ≤ k ∧ sizeAbove w = 2 ^ k ∧ w < 2 ^ k ∧ (2 ^ k = 8 ∨ 2 ^ k ≤ 2 * w) :=
  sizeAbove_go w 64 3 (Nat.lt_of_lt_of_le h (by decide))
def liveOf (mask : Nat) (o : Ow) : List (Nat × Nat) := (List.range (mask + 1)).filterMap fun j => (o.getD j none).map (j, ·)
theorem mem_live {mask : Nat} {o : Ow} (hs : o.size = mask + 1) {j i : Nat} : (j, i) ∈ liveOf mask o ↔ o[j]? = some (some i) := by
  unfold liveOf
  rw [List.mem_filterMap]
  constructor
  · rintro ⟨a, ha, e⟩
    rw [List.mem_range] at ha
    have g : o.getD a none = o[a] := by simp [Array.getD, show a < o.size by omega]
    rw [g, Option.map_eq_some_iff] at e
    obtain ⟨b, e1, e2⟩ := e
    cases e2
    rw [Array.getElem?_eq_getElem (by omega), e1]
  · intro e
    obtain ⟨h1, e1⟩ := Array.getElem?_eq_some_iff.mp e
    refine ⟨j, List.mem_range.mpr (by omega), ?_⟩
    have g : o.getD j none = o[j] := by simp [Array.getD, h1]
    rw [g, e1]; rfl
theorem live_ris (mask : Nat) (o : Ow) : Ris ((liveOf mask o).map (·.1)) := by
  unfold liveOf Ris
  have key : ∀ l : List Nat, l.Pairwise (· < ·) → ((l.filterMap fun j => (o.getD j none).map (j, ·)).map (·.1)).Pairwise (· < ·) ∧ ∀ x ∈ (l.filterMap fun j => (o.getD j none).map (j, ·)).map (·.1), x ∈ l := by
    intro l
    induction l with
    | nil => intro _; exact ⟨by simp, by simp⟩
    | cons a r ih =>
      intro h
      rw [List.pairwise_cons] at h
      obtain ⟨p, q⟩ := ih h.2
      rw [List.filterMap_cons]
      cases hc : (o.getD a none).map (a, ·) with
      | none => exact ⟨p, fun x hx => List.mem_cons_of_mem _ (q x hx)⟩
      | some y =>
        rw [Option.map_eq_some_iff] at hc
        obtain ⟨b, _, rfl⟩ := hc
        rw [List.map_cons, List.pairwise_cons]
        refine ⟨⟨fun x hx => h.1 x (q x hx), p⟩, fun x hx => ?_⟩
        rcases List.mem_cons.mp hx with rfl | hx
        · exact List.mem_cons_self
        · exact List.mem_cons_of_mem _ (q x hx)
  exact (key _ List.pairwise_lt_range).1
theorem range_picks {α : Type} (l : List α) : (List.range l.length).filterMap (fun i => l[i]?) = l := by
  induction l with
  | nil => rfl
  | cons a r ih =>
    rw [List.length_cons, List.range_succ_eq_map, List.filterMap_cons]
    simp only [List.getElem?_cons_zero, List.filterMap_map]
    congr 1
theorem laid_good {mask k : Nat} (h3 : 3 ≤ k) (hm : mask + 1 = 2 ^ k) {es : Array (Int × Value)} (hl : es.size ≤ mask) (f mv : Nat) (ld pl : Bool) :
    ∃ t order, laid mask f mv ld pl (es.map (·.1)) = some (t, order) ∧ t.mask = mask ∧ List.Perm (order.filterMap (es[·]?)).toList es.toList ∧ Good t ((order.filterMap (es[·]?)).toList.map (·.1)) := by
  obtain ⟨o, a, L⟩ := layClean_some hm (hs := es.map (·.1)) (by rw [Array.size_map]; omega)
  rw [Array.size_map] at L
  have hord : ((liveOf mask o).map (·.2)).Nodup := by
    rw [List.nodup_iff_pairwise_ne, List.pairwise_map]
    have hp : (liveOf mask o).Pairwise fun x y => x.1 < y.1 := List.pairwise_map.mp (live_ris mask o)
    refine List.Pairwise.imp_of_mem (fun {x y} hx hy hlt e => ?_) hp
    have e1 := (mem_live L.sz (j := x.1) (i := x.2)).mp hx
    have e2 := (mem_live L.sz (j := y.1) (i := y.2)).mp hy
    rw [← e] at e2
    have := L.inj _ _ _ e1 e2
    omega
  have hperm : List.Perm ((liveOf mask o).map (·.2)) (List.range es.size) := by
    refine (List.perm_ext_iff_of_nodup hord List.nodup_range).mpr fun i => ?_
    rw [List.mem_map, List.mem_range]
    constructor
    · rintro ⟨x, hx, rfl⟩
      exact L.lt _ _ ((mem_live L.sz (j := x.1) (i := x.2)).mp hx)
    · intro hi
      obtain ⟨j, e⟩ := L.all i hi
      exact ⟨(j, i), (mem_live L.sz).mpr e, rfl⟩
  refine ⟨{ mask, place := ((liveOf mask o).map (·.1)).toArray, dummies := #[], finger := f, led := ld, moves := mv, plain := pl }, ((liveOf mask o).map (·.2)).toArray, ?_, rfl, ?_, ?_⟩
  · unfold laid
    rw [a]
    rfl
  · have e : ((((liveOf mask o).map (·.2)).toArray).filterMap (es[·]?)).toList = ((liveOf mask o).map (·.2)).filterMap (es[·]?) := by simp
    rw [e]
    refine (hperm.filterMap _).trans ?_
    have := range_picks es.toList
    simp only [Array.length_toList, Array.getElem?_toList] at this
    rw [this]
  · have picks : ∀ l : List (Nat × Nat), (∀ x ∈ l, x.2 < es.size) → (l.map (·.2)).filterMap (es[·]?) = l.map fun x => (es[x.2]?).getD default := by
      intro l
      induction l with
      | nil => intro _; rfl
      | cons x r ih =>
        intro h
        have hx := h x List.mem_cons_self
        rw [List.map_cons, List.filterMap_cons, Array.getElem?_eq_getElem hx, List.map_cons, ih fun y hy => h y (List.mem_cons_of_mem _ hy), Array.getElem?_eq_getElem hx]
        rfl
    have hlt : ∀ x ∈ liveOf mask o, x.2 < es.size := fun x hx => L.lt _ _ ((mem_live L.sz (j := x.1) (i := x.2)).mp hx)
    have e : ((((liveOf mask o).map (·.2)).toArray).filterMap (es[·]?)).toList = (liveOf mask o).map fun x => (es[x.2]?).getD default := by
      rw [← picks _ hlt]; simp
    rw [e]
    have hlen : (liveOf mask o).length = es.size := by
      have := hperm.length_eq
      rw [List.length_map, List.length_range] at this
      exact this
    have hocc : ∀ j, j ∈ taken o → j ∈ (liveOf mask o).map (·.1) := fun j hj => by
      obtain ⟨i, e⟩ := mem_taken.mp hj
      exact List.mem_map.mpr ⟨(j, i), (mem_live L.sz).mpr e, rfl⟩
    refine ⟨⟨k, h3, hm⟩, rfl, by simpa using live_ris mask o, fun j hj => ?_, ?_, ?_, fun x hx => ?_⟩
    · have hj' : j ∈ (liveOf mask o).map (·.1) := by simpa using hj
      obtain ⟨x, hx, rfl⟩ := List.mem_map.mp hj'
      obtain ⟨h1, _⟩ := Array.getElem?_eq_some_iff.mp ((mem_live L.sz (j := x.1) (i := x.2)).mp hx)
      rw [L.sz] at h1
      show x.1 ≤ mask
      omega
    · simp
    · show (((liveOf mask o).map (·.1)).toArray).size ≤ mask
      rw [List.size_toArray, List.length_map, hlen]; exact hl
    · have hz : (((liveOf mask o).map (·.1)).toArray).toList.zip (((liveOf mask o).map fun x => (es[x.2]?).getD default).map (·.1)) = (liveOf mask o).map fun x => (x.1, ((es[x.2]?).getD default).1) := by
        simp [List.zip_map', List.map_map]
      have hx' : x ∈ (liveOf mask o).map fun x => (x.1, ((es[x.2]?).getD default).1) := by rw [← hz]; exact hx
      obtain ⟨y, hy, rfl⟩ := List.mem_map.mp hx'
      have e1 := (mem_live L.sz (j := y.1) (i := y.2)).mp hy
      have hi := hlt y hy
      have e2 : (es.map (·.1)).toList[y.2]? = some ((es[y.2]?).getD default).1 := by
        rw [Array.getElem?_eq_getElem hi]
        simp [hi]
      obtain ⟨q, q1, q2⟩ := L.reach y.1 y.2 _ e1 e2
      refine ⟨q, q1, fun m hm' => ?_⟩
      have := hocc _ (q2 m hm')
      simpa using this
end ST

/-! A set of tuples: what an addition does. -/
namespace PySem
section
variable {prog : Program} {w : World} {K : Type} [DecidableEq K] (knd : KeyKind prog w K)
def ElT (h : Heap) (k : List K) (e : Int × Value) : Prop := ∃ b, e.2 = .ref b ∧ IsTupleKey knd h k b ∧ e.1 = tupleKeyHash knd k
def Heap.TupSet (h : Heap) (a : Addr) (S : List K → Bool) (n : Nat) : Prop :=
  ∃ o es ep t, h.get? a = some o ∧ o.ExactSet ∧ o.data = .set es ep t ∧ ST.Good t (es.toList.map (·.1)) ∧ (∀ e ∈ es.toList, ∃ k, ElT knd h k e) ∧ (∀ k, S k = true ↔ ∃ e ∈ es.toList, ElT knd h k e)
    ∧ es.size = n ∧ t.place.size * 5 < t.mask * 3 ∧ (t.mask < 8 ∨ t.mask < 8 * n)
variable {knd} {A : Around} {E : Value → Shared → Prop} {s : Shared}
theorem ElT.inj {h : Heap} {k k' : List K} {e : Int × Value} (x : ElT knd h k e) (y : ElT knd h k' e) : k = k' := by
  obtain ⟨b, e1, t1, _⟩ := x
  obtain ⟨b', e2, t2, _⟩ := y
  rw [e1] at e2; cases e2
  exact t1.inj t2
theorem IsTupleKey.but {h h' : Heap} {ks : List K} {a d : Addr} {o : Obj} {es ep t} (x : IsTupleKey knd h ks a) (ho : h.get? d = some o) (hd : o.data = .set es ep t) (hs : Heap.SameBut d h h') : IsTupleKey knd h' ks a := by
  obtain ⟨o', items, n, ho', hc, hd', hi⟩ := x
  have hne : a ≠ d := by
    rintro rfl
    obtain rfl : o' = o := Option.some.inj (ho'.symm.trans ho)
    rw [hd] at hd'; exact nomatch hd'
  exact ⟨o', items, n, (hs.2 a hne).trans ho', hc, hd', hi⟩
theorem ElT.but {h h' : Heap} {k : List K} {e : Int × Value} {d : Addr} {o : Obj} {es ep t} (x : ElT knd h k e) (ho : h.get? d = some o) (hd : o.data = .set es ep t) (hs : Heap.SameBut d h h') : ElT knd h' k e :=
  let ⟨b, e1, e2, e3⟩ := x; ⟨b, e1, e2.but ho hd hs, e3⟩
theorem ofAClass_val {M : Model} (n : Nat) {v : Value} (h : carriedByValue v = true) : ofAClassStatement n v = pure false := by
  cases v <;> first | (cases n <;> rfl) | simp [carriedByValue] at h
theorem wpAny_ofAClass_tuple {ks : List K} {a : Addr} {Q : Bool → Shared → Prop} (hk : IsTupleKey knd s.heap ks a) (h : Q false s) : wpAny (model prog w) A (ofAClassStatement 8 (.ref a)) Q E s := by
  have hT := hk.typeIs
  obtain ⟨o, items, n, ho, _, hd, hi⟩ := hk
  unfold ofAClassStatement
  refine wpAny_bind (wpAny_typeOf hT ?_)
  dsimp only
  rw [if_pos (by decide)]
  refine wpAny_bind (wpAny_pure ?_)
  simp only [Bool.not_true, Bool.false_eq_true, if_false]
  refine wpAny_bind (wpAny_seqItems ho hd ?_)
  dsimp only
  refine wpAny_bind ?_
  rw [← Array.forIn_toList]
  refine wpAny_forIn_list _ (fun rest r s' => r.1 = none ∧ s' = s ∧ ∀ v ∈ rest, carriedByValue v = true) _ ?_ ?_ _ _ ⟨rfl, rfl, hi.byValue⟩
  · rintro v rest r s' ⟨hr, rfl, hall⟩
    rw [ofAClass_val (M := model prog w) _ (hall v List.mem_cons_self)]
    refine wpAny_bind (wpAny_pure ?_)
    simp only [Bool.false_eq_true, if_false]
    exact wpAny_pure ⟨rfl, rfl, fun u hu' => hall u (List.mem_cons_of_mem _ hu')⟩
  · rintro ⟨r1, r2⟩ s' ⟨hr, rfl, _⟩
    simp only at hr
    subst hr
    exact wpAny_pure h
theorem hashByValue_val (n : Nat) {v : Value} (h : carriedByValue v = true) : ∃ c, hashByValue n v = pure c := by
  cases v <;> first | (cases n <;> exact ⟨_, rfl⟩) | simp [carriedByValue] at h
theorem wpAny_hashByValue_tuple {ks : List K} {a : Addr} {Q : Bool → Shared → Prop} (hk : IsTupleKey knd s.heap ks a) (h : ∀ c, Q c s) : wpAny (model prog w) A (hashByValue 8 (.ref a)) Q E s := by
  have hT := hk.typeIs
  obtain ⟨o, items, n, ho, _, hd, hi⟩ := hk
  unfold hashByValue
  refine wpAny_bind (wpAny_specialOf hT F.slot_tuple_hash.lookup ?_)
  dsimp only
  refine wpAny_bind (wpAny_seqItems ho hd ?_)
  refine wpAny_bind ?_
  show wpAny _ _ (forIn items _ _) _ _ s
  rw [← Array.forIn_toList]
  refine wpAny_forIn_list _ (fun rest r s' => r.1 = none ∧ s' = s ∧ ∀ v ∈ rest, carriedByValue v = true) _ ?_ ?_ _ _ ⟨rfl, rfl, hi.byValue⟩
  · rintro v rest r s' ⟨hr, rfl, hall⟩
    obtain ⟨c, hc⟩ := hashByValue_val 7 (hall v List.mem_cons_self)
    rw [hc]
    refine wpAny_bind (wpAny_pure ?_)
    cases c
    · simp only [Bool.not_false, if_true]
      exact wpAny_pure (wpAny_pure (h _))
    · simp only [Bool.not_true, Bool.false_eq_true, if_false]
      exact wpAny_pure ⟨rfl, rfl, fun u hu' => hall u (List.mem_cons_of_mem _ hu')⟩
  · rintro ⟨r1, r2⟩ s' ⟨hr, rfl, _⟩
    simp only at hr
    subst hr
    exact wpAny_pure (h _)
theorem wpAny_notSeen {k : List K} {b : Addr} {Q : Bool → Shared → Prop} (hk : IsTupleKey knd s.heap k b) {l : List Value} (hl : ∀ v ∈ l, ∃ k' b', v = .ref b' ∧ IsTupleKey knd s.heap k' b') (h : Q false s) :
    wpAny (model prog w) A (searchCouldBeSeen (.ref b) l) Q E s := by
  unfold searchCouldBeSeen
  refine wpAny_bind ?_
  refine wpAny_forIn_list _ (fun rest r s' => r.1 = none ∧ s' = s ∧ ∀ v ∈ rest, ∃ k' b', v = .ref b' ∧ IsTupleKey knd s.heap k' b') _ ?_ ?_ _ _ ⟨rfl, rfl, hl⟩
  · rintro v rest r s' ⟨hr, rfl, hall⟩
    obtain ⟨k', b', rfl, hk'⟩ := hall v List.mem_cons_self
    have more : ∀ u ∈ rest, ∃ k' b', u = Value.ref b' ∧ IsTupleKey knd s'.heap k' b' := fun u hu => hall u (List.mem_cons_of_mem _ hu)
    dsimp only
    split
    · exact wpAny_pure ⟨rfl, rfl, more⟩
    · refine wpAny_bind (wpAny_eqIsQuiet_tuple hk ?_)
      simp only [Bool.not_true, Bool.false_eq_true, if_false]
      refine wpAny_bind (wpAny_eqIsQuiet_tuple hk' ?_)
      simp only [Bool.not_true, Bool.false_eq_true, if_false]
      refine wpAny_bind (wpAny_ofAClass_tuple hk ?_)
      simp only [Bool.false_eq_true, if_false]
      refine wpAny_bind (wpAny_ofAClass_tuple hk' ?_)
      simp only [Bool.false_eq_true, if_false]
      exact wpAny_pure ⟨rfl, rfl, more⟩
  · rintro ⟨r1, r2⟩ s' ⟨hr, rfl, _⟩
    simp only at hr
    subst hr
    exact wpAny_pure h
end
end PySem

namespace PySem
section
variable {prog : Program} {w : World} {K : Type} [DecidableEq K] {knd : KeyKind prog w K} {A : Around} {E : Value → Shared → Prop} {s : Shared}
open ST in
theorem wpAny_setSearch_tup {a b : Addr} {k : List K} {o : Obj} {es : Array (Int × Value)} {ep : Nat} {t : SetTable} {Q : SetFound → Shared → Prop} (hu : A.units < cLine) (ho : s.heap.get? a = some o) (hd : o.data = .set es ep t)
    (g : Good t (es.toList.map (·.1))) (hel : ∀ e ∈ es.toList, ∃ k, ElT knd s.heap k e) (hk : IsTupleKey knd s.heap k b) {N : Nat} (hN : pos t.mask (tupleKeyHash knd k) N ∉ t.place.toList) (hO : ∀ m, m < N → pos t.mask (tupleKeyHash knd k) m ∈ t.place.toList)
    (hb : N < 10 * (t.mask + 15)) (hY : (∃ e ∈ es.toList, ElT knd s.heap k e) → Q (.there none) s) (hNo : (∀ e ∈ es.toList, ¬ ElT knd s.heap k e) → Q (.free (pos t.mask (tupleKeyHash knd k) N) false) s) :
    ∀ fuel q (stand : Option SetTable.Probe), N - q < fuel → q ≤ N → stand.getD (t.probeStart (tupleKeyHash knd k)) = itr t.mask q (st t.mask (tupleKeyHash knd k)) →
      ((∃ e ∈ es.toList, ElT knd s.heap k e) → ∃ m i e, q ≤ m ∧ m < N ∧ t.slot (pos t.mask (tupleKeyHash knd k) m) = .live i ∧ es[i]? = some e ∧ ElT knd s.heap k e) →
      wpAny (model prog w) A (setSearchFrom a (.ref b) (tupleKeyHash knd k) true fuel stand) Q E s
  | 0, q, stand, h1, h2, h3, h4 => absurd h1 (Nat.not_lt_zero _)
  | fuel + 1, q, stand, h1, h2, h3, h4 => by
    have hf : t.fits es.size = true := by have := g.fits; simpa using this
    unfold setSearchFrom
    refine wpAny_bind (wpAny_setState_of ho hd hf ?_)
    dsimp only
    rw [g.odd]
    simp only [Bool.false_eq_true, if_false]
    rw [h3]
    unfold SetTable.probe
    rcases probe_go g (tupleKeyHash knd k) hN hO _ (10 * SetTable.turns t.mask) q h2 (by unfold SetTable.turns; omega) with ⟨e, all⟩ | ⟨m, i, a1, a2, a3, a4, a5, a6⟩
    · rw [e]
      dsimp only
      refine wpAny_pure (hNo fun e he hk' => ?_)
      obtain ⟨m, i, e', b1, b2, b3, b4, b5⟩ := h4 ⟨e, he, hk'⟩
      refine all m i b1 b2 b3 ?_
      show (es[i]?.map (·.1)).getD 0 = _
      rw [b4]
      obtain ⟨_, _, _, z⟩ := b5
      exact z
    · rw [a5]
      dsimp only
      obtain ⟨pi, hpi, hsl⟩ := slot_mem g.ris (hO m a2)
      rw [a3] at hsl
      cases hsl
      have hi : i < es.size := by
        have := (Array.getElem?_eq_some_iff.mp hpi).1
        rw [g.len] at this
        simpa using this
      have hei : es[i]? = some es[i] := Array.getElem?_eq_getElem hi
      have hmem : es[i] ∈ es.toList := by simp
      obtain ⟨k', b', eb, hk', hh'⟩ := hel _ hmem
      have key : ∀ U Y : Sem SetFound, wpAny (model prog w) A Y Q E s → wpAny (model prog w) A (if (!t.led) = true then do
          let c ← searchCouldBeSeen (Value.ref b) (List.map (fun x => x.snd) (Array.filter (fun x => x.fst == tupleKeyHash knd k) es).toList)
          if c = true then U else Y
        else Y) Q E s := fun U Y q' => by
        split
        · refine wpAny_bind (wpAny_notSeen hk (fun v hv => ?_) ?_)
          · obtain ⟨e, he, rfl⟩ := List.mem_map.mp hv
            have he' : e ∈ es := by
              simp at he
              exact he.1
            obtain ⟨k'', b'', e1, e2, _⟩ := hel e (by simpa using he')
            exact ⟨k'', b'', e1, e2⟩
          · simp only [Bool.false_eq_true, if_false]
            exact q'
        · exact q'
      refine key _ _ ?_
      rw [hei]
      dsimp only
      rw [eb]
      refine wpAny_bind (wpAny_holding (wpAny_eqBool_tuple hu hk' hk ?_))
      refine wpAny_bind (wpAny_setState_of ho hd hf ?_)
      dsimp only
      by_cases c : k' = k
      · subst c
        rw [decide_eq_true rfl]
        simp only [Bool.and_self, if_true]
        exact wpAny_pure (hY ⟨_, hmem, b', eb, hk', hh'⟩)
      · rw [decide_eq_false c]
        simp only [Bool.and_false, Bool.false_eq_true, if_false]
        have hsm : t.sameMemory t.moves t.mask = some true := by unfold SetTable.sameMemory; simp
        rw [hsm]
        dsimp only
        rw [if_pos rfl, a3]
        dsimp only
        rw [hei]
        dsimp only
        rw [eb]
        refine wpAny_bind (wpAny_isSame_ref_self ?_)
        rw [if_pos rfl]
        refine wpAny_bind (wpAny_pure ?_)
        dsimp only
        refine wpAny_setSearch_tup hu ho hd g hel hk hN hO hb hY hNo fuel (m + 1) (some _) (by omega) (by omega) rfl fun hx => ?_
        obtain ⟨m', i', e', b1, b2, b3, b4, b5⟩ := h4 hx
        refine ⟨m', i', e', ?_, b2, b3, b4, b5⟩
        rcases Nat.lt_trichotomy m' m with z | z | z
        · refine absurd ?_ (a6 m' i' b1 z b3)
          show (es[i']?.map (·.1)).getD 0 = _
          rw [b4]
          obtain ⟨_, _, _, z'⟩ := b5
          exact z'
        · subst z
          rw [a3] at b3; cases b3
          rw [hei] at b4; cases b4
          exact absurd (ElT.inj ⟨b', eb, hk', hh'⟩ b5) c
        · omega
end
end PySem

namespace PySem
section
variable {prog : Program} {w : World} {K : Type} [DecidableEq K] {knd : KeyKind prog w K} {A : Around} {E : Value → Shared → Prop} {s : Shared}
theorem wpAny_setRelay {a : Addr} {o : Obj} {es : Array (Int × Value)} {ep : Nat} {t : SetTable} {wanted : Nat} {Q : Unit → Shared → Prop} (ho : s.heap.get? a = some o) (hd : o.data = .set es ep t)
    (hf : t.fits es.size = true) (hw : wanted < 100000) (hw2 : 4 * es.size ≤ wanted)
    (h : ∀ es' t', List.Perm es'.toList es.toList → ST.Good t' (es'.toList.map (·.1)) → wanted < t'.mask + 1 → (t'.mask + 1 = 8 ∨ t'.mask + 1 ≤ 2 * wanted) → Q () { s with heap := s.heap.update a (Obj.putSet es' t') }) :
    wpAny (model prog w) A (setRelay a wanted) Q E s := by
  obtain ⟨k, h3, e, lt, le⟩ := ST.sizeAbove_spec (w := wanted) (Nat.lt_of_lt_of_le hw (by decide))
  unfold setRelay
  refine wpAny_bind (wpAny_setState_of ho hd hf ?_)
  dsimp only
  have hsl : ¬ SetTable.sizeAbove wanted > sizeLine := by
    rw [e, sizeLine_eq]
    rcases le with z | z <;> omega
  rw [if_neg hsl]
  have hpos : 0 < 2 ^ k := Nat.two_pow_pos k
  have hm : (2 ^ k - 1) + 1 = 2 ^ k := by omega
  obtain ⟨t', order, el, em, perm, good⟩ := ST.laid_good h3 hm (es := es) (by omega) t.finger (t.movedTo (2 ^ k - 1)) t.led t.plain
  have er : t.relaid (es.map (·.1)) wanted = some (t', order) := by
    unfold SetTable.relaid
    rw [e]; exact el
  rw [er]
  have hsz : (order.filterMap (es[·]?)).size = es.size := by
    rw [← Array.length_toList, perm.length_eq, Array.length_toList]
  show wpAny (model prog w) A ((do
      let es' := order.filterMap (es[·]?)
      if es'.size != es.size then unsupported "internal:set-table-lost-an-element"
      pure (es', t')) >>= fun x => storeSet a x.1 x.2) Q E s
  dsimp only
  rw [hsz]
  simp only [bne_self_eq_false, Bool.false_eq_true, if_false]
  refine wpAny_bind (wpAny_pure ?_)
  refine wpAny_storeSet_of ho hd (h _ _ perm good (by rw [em, hm]; exact lt) (by rw [em, hm]; exact le)) ?_
  rw [hsz, sizeLine_eq]; omega
theorem TupSet_store {h : Heap} {a : Addr} {o : Obj} {es : Array (Int × Value)} {ep : Nat} {t : SetTable} (ho : h.get? a = some o) (hex : o.ExactSet) (hd : o.data = .set es ep t) (es' : Array (Int × Value)) (t' : SetTable) :
    (h.update a (Obj.putSet es' t')).get? a = some { o with data := .set es' (ep + 1) t' } ∧ Heap.SameBut a h (h.update a (Obj.putSet es' t')) ∧ ({ o with data := .set es' (ep + 1) t' } : Obj).ExactSet := by
  have hg : (h.update a (Obj.putSet es' t')).get? a = some { o with data := .set es' (ep + 1) t' } := by
    have := Heap.get?_update_self (Obj.putSet es' t') ho (by rw [putSet_of es' t' hd]; rfl)
    rw [putSet_of es' t' hd] at this; exact this
  exact ⟨hg, Heap.SameBut.update h a _, hex⟩
open ST in
theorem wpAny_setAdd_tup {a b : Addr} {k : List K} {S : List K → Bool} {n : Nat} {Q : Bool → Shared → Prop} (hu : A.units < cLine) (hS : s.heap.TupSet knd a S n) (hk : IsTupleKey knd s.heap k b) (hroom : n < 1000)
    (h : ∀ h', Heap.SameBut a s.heap h' → h'.TupSet knd a (fun k' => S k' || decide (k' = k)) (if S k then n else n + 1) → Q (!S k) { s with heap := h' }) :
    wpAny (model prog w) A (setAddHashed a (.ref b) (tupleKeyHash knd k)) Q E s := by
  obtain ⟨o, es, ep, t, ho, hex, hd, g, hel, hmem, hn, hfull, hmask⟩ := hS
  have hf : t.fits es.size = true := by have := g.fits; simpa using this
  have hps : t.place.size = es.size := by have := g.len; simpa using this
  unfold setAddHashed
  refine wpAny_holding ?_
  unfold setAddHashedIn
  refine wpAny_bind (wpAny_setState_of ho hd hf ?_)
  dsimp only
  rw [show byScan (.ref b) es = false from rfl]
  simp only [Bool.false_eq_true, if_false]
  obtain ⟨N, hN1, hN2, hN3⟩ := g.free (tupleKeyHash knd k)
  refine wpAny_bind ?_
  unfold setSearch
  refine wpAny_setSearch_tup hu ho hd g hel hk hN2 hN3 (by omega) (fun hx => ?_) (fun hx => ?_) 100000 0 none (by rcases hmask with z | z <;> omega) (Nat.zero_le _) rfl (fun ⟨e, he, hke⟩ => ?_)
  · -- it is there
    dsimp only
    have hSk : S k = true := (hmem k).mpr hx
    refine wpAny_pure ?_
    have := h s.heap (Heap.SameBut.refl a s.heap) ⟨o, es, ep, t, ho, hex, hd, g, hel, fun k' => by
      rw [Bool.or_eq_true, decide_eq_true_eq, ← hmem k']
      exact ⟨fun hk => hk.elim id (fun e => e ▸ hSk), .inl⟩, by rw [hSk]; exact hn, hfull, by rw [hSk]; exact hmask⟩
    rw [hSk] at this
    exact this
  · -- it is new
    dsimp only
    have hSk : S k = false := by
      cases hc : S k with
      | false => rfl
      | true => obtain ⟨e, he, hp⟩ := (hmem k).mp hc; exact absurd hp (hx e he)
    rw [hSk] at h
    refine wpAny_bind (wpAny_setState_of ho hd hf ?_)
    dsimp only
    have hplain : ∀ Y : Bool → Sem Bool, (∀ c, wpAny (model prog w) A (Y c) Q E s) → wpAny (model prog w) A (if (t.put (pos t.mask (tupleKeyHash knd k) N)).1.plain = true then (hashByValue 8 (.ref b) >>= Y) else (pure true >>= Y)) Q E s := fun Y hR => by
      split
      · exact wpAny_bind (wpAny_hashByValue_tuple hk hR)
      · exact wpAny_bind (wpAny_pure (hR true))
    refine hplain _ fun c => ?_
    generalize hT : (if c = true then (t.put (pos t.mask (tupleKeyHash knd k) N)).1 else { (t.put (pos t.mask (tupleKeyHash knd k) N)).1 with plain := false }) = T
    have hr : t.place.size < t.mask := by omega
    have hTg : ∃ pl, T = { (t.put (pos t.mask (tupleKeyHash knd k) N)).1 with plain := pl } := by
      cases c
      · exact ⟨false, by rw [← hT]; rfl⟩
      · exact ⟨(t.put (pos t.mask (tupleKeyHash knd k) N)).1.plain, by rw [← hT]; rfl⟩
    obtain ⟨pl, hTe⟩ := hTg
    have g1 := g.put hN2 hN3 hr pl
    rw [← hTe] at g1
    generalize hES : SetTable.insertAt es (t.put (pos t.mask (tupleKeyHash knd k) N)).2 (tupleKeyHash knd k, Value.ref b) = ES
    have hESl : ES.toList = insL es.toList (SetTable.below t.place (pos t.mask (tupleKeyHash knd k) N)) (tupleKeyHash knd k, Value.ref b) := by
      rw [← hES]; exact toList_insertAt _ _ _
    have hESm : ES.toList.map (·.1) = insL (es.toList.map (·.1)) (SetTable.below t.place (pos t.mask (tupleKeyHash knd k) N)) (tupleKeyHash knd k) := by
      rw [hESl]; unfold insL; simp [List.map_take, List.map_drop]
    rw [← hESm] at g1
    have hESp : ES.toList.Perm ((tupleKeyHash knd k, Value.ref b) :: es.toList) := by rw [hESl]; exact insL_perm _ _ _
    have hESz : ES.size = n + 1 := by
      have := hESp.length_eq
      simp at this; omega
    have hTm : T.mask = t.mask := by rw [hTe]; rfl
    have hTp : T.place.size = n + 1 := by have := g1.len; simp at this; omega
    have hTd : T.dummies.size = 0 := by rw [g1.dum]; rfl
    have hSL : ES.size ≤ sizeLine := by rw [hESz, sizeLine_eq]; omega
    obtain ⟨ho1, hsb1, hex1⟩ := TupSet_store ho hex hd ES T
    refine wpAny_bind (wpAny_storeSet_of ho hd ?_ hSL)
    have hnew : ElT knd s.heap k (tupleKeyHash knd k, Value.ref b) := ⟨b, rfl, hk, rfl⟩
    have elems : ∀ (L : List (Int × Value)) (h' : Heap), L.Perm ((tupleKeyHash knd k, Value.ref b) :: es.toList) → Heap.SameBut a s.heap h' → (∀ e ∈ L, ∃ k, ElT knd h' k e) ∧ ∀ k', (S k' || decide (k' = k)) = true ↔ ∃ e ∈ L, ElT knd h' k' e := fun L h' hp hs => by
      have old : ∀ e ∈ es.toList, ∃ k', ElT knd s.heap k' e ∧ ElT knd h' k' e := fun e he => by
        obtain ⟨k', z⟩ := hel e he
        exact ⟨k', z, z.but ho hd hs⟩
      refine ⟨fun e he => ?_, fun k' => ?_⟩
      · rcases List.mem_cons.mp (hp.mem_iff.mp he) with rfl | he
        · exact ⟨k, hnew.but ho hd hs⟩
        · obtain ⟨k', _, z⟩ := old e he; exact ⟨k', z⟩
      · rw [Bool.or_eq_true, decide_eq_true_eq, hmem k']
        constructor
        · rintro (⟨e, he, z⟩ | rfl)
          · exact ⟨e, hp.mem_iff.mpr (List.mem_cons_of_mem _ he), z.but ho hd hs⟩
          · exact ⟨_, hp.mem_iff.mpr List.mem_cons_self, hnew.but ho hd hs⟩
        · rintro ⟨e, he, z⟩
          rcases List.mem_cons.mp (hp.mem_iff.mp he) with rfl | he
          · exact .inr (z.inj (hnew.but ho hd hs))
          · obtain ⟨k'', z1, z2⟩ := old e he
            have := z.inj z2
            subst this
            exact .inl ⟨e, he, z1⟩
    by_cases hfl : T.tooFull = true
    · rw [hfl]
      simp only [Bool.not_false, Bool.and_self, if_true]
      have hgr : SetTable.grown (es.size + 1) = 4 * (n + 1) := by unfold SetTable.grown; rw [if_neg (by omega)]; omega
      rw [hgr]
      refine wpAny_bind (wpAny_setRelay ho1 rfl (by have := g1.fits; simpa using this) (by omega) (by omega) fun es' t' hp hg hw hle => ?_)
      obtain ⟨ho2, hsb2, hex2⟩ := TupSet_store ho1 hex1 rfl es' t'
      have hsb : Heap.SameBut a s.heap ((s.heap.update a (Obj.putSet ES T)).update a (Obj.putSet es' t')) := hsb1.trans hsb2
      obtain ⟨x1, x2⟩ := elems es'.toList _ (hp.trans hESp) hsb
      have hz' : es'.size = n + 1 := by have := hp.length_eq; simp at this; omega
      have hp' : t'.place.size = n + 1 := by have := hg.len; simp at this; omega
      refine wpAny_pure (h _ hsb ⟨_, es', _, t', ho2, hex2, rfl, hg, x1, x2, ?_, ?_, ?_⟩)
      · simp only [Bool.false_eq_true, if_false]; exact hz'
      · rw [hp']; omega
      · simp only [Bool.false_eq_true, if_false]; omega
    · rw [Bool.not_eq_true] at hfl
      rw [hfl]
      simp only [Bool.and_false, Bool.false_eq_true, if_false]
      obtain ⟨x1, x2⟩ := elems ES.toList _ hESp hsb1
      have hnf : T.place.size * 5 < T.mask * 3 := by
        unfold SetTable.tooFull SetTable.fill at hfl
        rw [hTd] at hfl
        simp at hfl
        omega
      refine wpAny_pure (h _ hsb1 ⟨_, ES, _, T, ho1, hex1, rfl, g1, x1, x2, ?_, hnf, ?_⟩)
      · simp only [Bool.false_eq_true, if_false]; exact hESz
      · simp only [Bool.false_eq_true, if_false]; rw [hTm]; omega
  · -- where it would be met
    obtain ⟨i, hi, ei⟩ := List.getElem_of_mem he
    have hi' : i < es.size := by simpa using hi
    have hpi : i < t.place.size := by omega
    have hz : (t.place[i], e.1) ∈ t.place.toList.zip (es.toList.map (·.1)) := by
      refine List.mem_iff_getElem.mpr ⟨i, ?_, ?_⟩
      · simp; omega
      · simp [← ei]
    obtain ⟨q, q1, q2⟩ := g.reach _ hz
    have eh : e.1 = tupleKeyHash knd k := let ⟨_, _, _, z⟩ := hke; z
    dsimp only at q1 q2
    rw [eh] at q1 q2
    have hmemq : pos t.mask (tupleKeyHash knd k) q ∈ t.place.toList := by rw [q1]; simp
    have hqN : q < N := by
      rcases Nat.lt_trichotomy q N with z | z | z
      · exact z
      · subst z; exact absurd hmemq hN2
      · exact absurd (q2 N z) hN2
    refine ⟨q, i, e, Nat.zero_le _, hqN, ?_, ?_, hke⟩
    · rw [q1]; exact slot_live g.ris (Array.getElem?_eq_getElem hpi)
    · rw [← ei]; simp [hi']
end
end PySem

/-! set(xs): the new set, filled one by one. -/
namespace PySem
abbrev newSetO (led : Bool) : Obj := { cls := .type "set", dict := none, data := .set #[] 0 (.fresh 0 0 led) }
section
variable {prog : Program} {w : World} {A : Around} {E : Value → Shared → Prop} {s : Shared}
set_option maxRecDepth 100000 in
set_option maxHeartbeats 3200000 in
theorem call_set_any {x : Value} {Q : Value → Shared → Prop}
    (up : ∀ (led : Bool) (E' : Value → Shared → Prop), wpAny (model prog w) A.in1.in1 (Builtin.Frozenset.updateFrom "set.__init__" s.heap.objs.size x) (fun _ s2 => Q (.ref s.heap.objs.size) s2) E' { s with heap := s.heap.push (newSetO led) }) :
    wpAny (model prog w) A (call (.type "set") [x]) Q E s := by
  obtain ⟨c0, tl0, hm0⟩ := F.called_set.mro
  have made0 := F.called_set.made
  have sub0 := F.called_set.sub
  refine wpAny_call (codeAny_of_tree ?_)
  show wpAny _ _ (callAny (.type "set") _) _ _ _
  refine wpAny_pure ⟨Code.quiet_builtin _ (by decide +kernel), codeAny_builtin F.entry_type_call ?_⟩
  rw [Around.under_plain (weight_type_call_type "set" [x] []) rfl]
  have n0 := F.called_set.notType
  have n1 := F.called_set.canCreate
  have ct0 := F.typeCall_set_1 x
  repeat (any_goals (first | assumption | wp_step))
  refine codeAny_mono (code_set_new_1 x (E := E) (Q₁ := fun v s1 => ∃ led : Bool, v = .ref s.heap.objs.size ∧ s1 = { s with heap := s.heap.push (newSetO led) }) fun led => ⟨led, rfl, rfl⟩) fun r0 s0 hr0 => ?_
  cases r0 with
  | error e => exact hr0
  | ok f0 =>
    cases f0 with
    | ret v0 =>
      obtain ⟨led, rfl, rfl⟩ := hr0
      have hS0 : (s.heap.push (newSetO led)).get? s.heap.objs.size = some (newSetO led) := Heap.get?_push_size _ rfl
      have hT0 : Shared.TypeIs { s with heap := s.heap.push (newSetO led) } (.ref s.heap.objs.size) "set" := ⟨_, hS0, rfl⟩
      have li0 := F.called_set.init.lookup
      have bi0 := F.called_set.init.bind (.ref s.heap.objs.size)
      repeat (any_goals (first | assumption | wp_step))
      refine codeAny_mono (codeAny_call_builtin (R := wants (fun r s2 => r = .none ∧ Q (.ref s.heap.objs.size) s2) E) F.called_set.init.plain F.entry_set_init (check_set_init_1 hT0 ?_)) fun r1 s1 hr1 => ?_
      · unfold Builtin.«set.__init__» noKeywords
        have up0 := up led
        generalize Builtin.Frozenset.updateFrom = UF at up0 ⊢
        wp_walk
        refine wpAny_mono (up0 _) (fun _ s2 hq => ?_) fun _ _ e => e
        first | exact wpAny_pure ⟨rfl, hq⟩ | exact wpAny_pure (wpAny_pure ⟨rfl, hq⟩) | exact wpAny_bind (wpAny_pure (wpAny_pure ⟨rfl, hq⟩))
      · cases r1 with
        | error e => exact hr1
        | ok f1 =>
          cases f1 with
          | ret r =>
            obtain ⟨rfl, hq⟩ := hr1
            repeat (any_goals (first | assumption | wp_step))
          | _ => exact hr1.elim
    | _ => exact hr0.elim
end
end PySem

namespace PySem
section
variable {prog : Program} {w : World} {B : Around} {E : Value → Shared → Prop} {s : Shared}
theorem set_loop {R : Result → Shared → Prop} {I : Addr} {fp wr : List Addr} {n : Nat} {P : Nat → Value → Prop} {St : Nat → Heap → Prop} (W : Walks prog w B.in1 I fp wr n P St) (S : Addr) (hSf : S ∉ fp) (Sx : Nat → Heap → Prop)
    (keep : ∀ i j h h', St j h → Sx i h → (∀ b o, b ∉ wr → h.get? b = some o → h'.get? b = some o) → Sx i h')
    (add : ∀ i v (s' : Shared) (Q : Bool → Shared → Prop) (E' : Value → Shared → Prop), i < n → P i v → Sx i s'.heap → (∀ h' tk c, Heap.SameBut S s'.heap h' → Sx (i + 1) h' → Q c { s' with heap := h', toks := tk }) → wpAny (model prog w) B.in1 (setAdd S v) Q E' s') :
    ∀ (k i : Nat) (s : Shared), n - i = k → i ≤ n → St i s.heap → Sx i s.heap →
      (∀ h' tk, (∀ b o, b ∉ wr → b ≠ S → s.heap.get? b = some o → h'.get? b = some o) → Sx n h' → R (.ok (.ret .none)) { s with heap := h', toks := tk }) →
      codeAny (model prog w) B (.builtin "set.update.loop" ⟨[.ref S, .ref I], []⟩) R s := by
  intro k
  induction k with
  | zero =>
    intro i s hk hi st sx hR
    obtain rfl : i = n := by omega
    refine codeAny_builtin PyProof.Rows.F.entry_set_update_loop ?_
    rw [Around.under_plainId PyProof.Rows.F.plain_set_update_loop _]
    show wpAny _ B.in1 (pyNext (.ref I) >>= _) _ _ s
    refine wpAny_bind (W.done s _ _ st fun h' tk hm => ?_)
    show wpAny _ B.in1 (ret Value.none) _ _ _
    exact wpAny_pure (hR h' tk (fun b o hb _ e => hm b o hb e) (keep _ _ _ _ st sx hm))
  | succ k ih =>
    intro i s hk hi st sx hR
    have hlt : i < n := by omega
    refine codeAny_builtin PyProof.Rows.F.entry_set_update_loop ?_
    rw [Around.under_plainId PyProof.Rows.F.plain_set_update_loop _]
    show wpAny _ B.in1 (pyNext (.ref I) >>= _) _ _ s
    refine wpAny_bind (W.item i s _ _ hlt st fun v h1 t1 hP st1 hm => ?_)
    have sx1 : Sx i h1 := keep _ _ _ _ st sx hm
    show wpAny _ B.in1 (holding [v] (setAdd S v) >>= _) _ _ _
    refine wpAny_bind (wpAny_holding (add i v _ _ _ hlt hP sx1 fun h2 t2 c hsb sx2 => ?_))
    refine wpAny_pure ⟨plainId_quiet PyProof.Rows.F.plain_set_update_loop _, ih (i + 1) _ (by omega) hlt (W.frame _ _ _ st1 fun b hb o e => ?_) sx2 fun h3 t3 hk3 sx3 => ?_⟩
    · show h2.get? b = some o
      rw [hsb.2 b (fun z : b = S => hSf (by rw [← z]; exact hb))]; exact e
    · refine hR h3 t3 (fun b o hb hS e => hk3 b o hb hS ?_) sx3
      show h2.get? b = some o
      rw [hsb.2 b hS]; exact hm b o hb e
set_option maxRecDepth 100000 in
set_option maxHeartbeats 3200000 in
theorem updateFrom_list {id : String} {a l : Addr} {items : Array Value} {Q : Unit → Shared → Prop} (hh : B.handled = none) (hl : s.heap.IsList l items) (hal : a ≠ l) (has : a < s.heap.objs.size) (Sx : Nat → Heap → Prop) (start : Sx 0 s.heap)
    (keep : ∀ i (h h' : Heap), (∃ o, h.get? s.heap.objs.size = some o ∧ o.cls = .type "list_iterator") → Sx i h → (∀ b o, b ≠ s.heap.objs.size → h.get? b = some o → h'.get? b = some o) → Sx i h')
    (keep0 : ∀ (h' : Heap), (∀ b o, s.heap.get? b = some o → h'.get? b = some o) → Sx 0 h')
    (add : ∀ i v (s' : Shared) (Q : Bool → Shared → Prop) (E' : Value → Shared → Prop), items[i]? = some v → Sx i s'.heap → (∀ h' tk c, Heap.SameBut a s'.heap h' → Sx (i + 1) h' → Q c { s' with heap := h', toks := tk }) → wpAny (model prog w) B.in1 (setAdd a v) Q E' s')
    (fin : ∀ h' tk, Sx items.size h' → (∀ b o, b < s.heap.objs.size → b ≠ a → s.heap.get? b = some o → h'.get? b = some o) → Q () { s with heap := h', toks := tk }) :
    wpAny (model prog w) B (Builtin.Frozenset.updateFrom id a (.ref l)) Q E s := by
  obtain ⟨ol, hol, hcl, nl, hdl⟩ := hl
  obtain ⟨oc, od, odt, os⟩ := ol
  simp only at hcl hdl
  subst hcl; subst hdl
  have sl0 := F.sub_list_set
  have sl1 := F.sub_list_frozenset
  have ne0 : (Value.type "list" == Value.type "dict") = false := by decide
  have hl1 : s.heap.IsList l items := ⟨_, hol, rfl, nl, rfl⟩
  unfold Builtin.Frozenset.updateFrom
  generalize hPI : pyIter = PI
  wp_walk
  subst hPI
  refine wpAny_pyIter_list hl1 ?_
  refine wpAny_bind (wpAny_runValue ?_)
  have hlt : l < s.heap.objs.size := Heap.lt_size hol
  refine set_loop (Walks.list (by simp [hh]) _ l (Nat.ne_of_lt hlt) items) a ?_ Sx ?_ (fun i v s' Q E' _ hv sx hq => add i v s' Q E' hv sx hq) (items.size - 0) 0 _ rfl (Nat.zero_le _) ?_ ?_ ?_
  · simp only [List.mem_cons, List.not_mem_nil, or_false, not_or]
    exact ⟨Nat.ne_of_lt has, hal⟩
  · intro i j h h' st sx hk
    obtain ⟨⟨o, e, c, _⟩, _⟩ := st
    exact keep i h h' ⟨o, e, c⟩ sx fun b o hb e => hk b o (by simpa using hb) e
  · exact ⟨⟨_, Heap.get?_push_size _ rfl, rfl, rfl⟩, hl1.push _⟩
  · exact keep0 _ fun b o e => Heap.get?_push_of_some _ e
  · intro h' tk hk sx
    refine wpAny_pure ?_
    refine fin h' tk sx fun b o hb hba e => hk b o ?_ hba (Heap.get?_push_of_some _ e)
    simp only [List.mem_cons, List.not_mem_nil, or_false]
    exact Nat.ne_of_lt hb
end
end PySem

namespace L3
open PySem PySem.Spec PyProof.Rows L2
def ndist {κ : Type} [DecidableEq κ] : List κ → Nat
  | [] => 0
  | x :: xs => if x ∈ xs then ndist xs else ndist xs + 1
theorem ndist_le {κ : Type} [DecidableEq κ] : ∀ xs : List κ, ndist xs ≤ xs.length
  | [] => Nat.le_refl _
  | x :: xs => by
    have := ndist_le xs
    rw [ndist]
    split <;> simp only [List.length_cons] <;> omega
theorem ndist_nodup {κ : Type} [DecidableEq κ] : ∀ xs : List κ, ndist xs = xs.length ↔ xs.Nodup
  | [] => by simp [ndist]
  | x :: xs => by
    have := ndist_le xs
    rw [List.nodup_cons, ← ndist_nodup xs, ndist]
    split
    · rename_i h
      simp only [List.length_cons, h, not_true, false_and, iff_false]; omega
    · rename_i h
      simp only [List.length_cons, h, not_false_eq_true, true_and]; omega
def memD {κ : Type} [DecidableEq κ] (x : κ) (xs : List κ) : Bool := decide (x ∈ xs)
theorem memD_nil {κ : Type} [DecidableEq κ] (x : κ) : memD x [] = false := by simp [memD]
theorem memD_cons {κ : Type} [DecidableEq κ] (x y : κ) (xs : List κ) : memD x (y :: xs) = (memD x xs || decide (x = y)) := by
  unfold memD
  by_cases c : x = y <;> simp [c]
theorem ndist_cons {κ : Type} [DecidableEq κ] (x : κ) (xs : List κ) : ndist (x :: xs) = if memD x xs then ndist xs else ndist xs + 1 := by
  rw [ndist]; simp only [memD, decide_eq_true_eq]
theorem take_rev {κ : Type} {ks : List κ} {i : Nat} {k : κ} (h : ks[i]? = some k) : (ks.take (i + 1)).reverse = k :: (ks.take i).reverse := by
  obtain ⟨hi, e⟩ := List.getElem?_eq_some_iff.mp h
  rw [List.take_succ_eq_append_getElem hi, List.reverse_append, e]; rfl
def sizeIs (a : Addr) (n : Nat) : Heap → Prop := fun h => ∃ o es ep t, h.get? a = some o ∧ o.ExactSet ∧ o.data = .set es ep t ∧ t.fits es.size = true ∧ es.size = n
abbrev SetN (a : Addr) (n : Nat) : HO := .ext (sizeIs a n)
theorem sizeIs_ok {P : Program} {w : World} {H : Hp} {h : Heap} {a : Addr} {n : Nat} (x : sizeIs a n h) : ObjOk P w H h a (SetN a n) := by
  refine ⟨x, let ⟨o, _, _, _, e, _⟩ := x; ⟨o, e⟩, fun h1 h2 x1 k => ?_⟩
  obtain ⟨o, es, ep, t, e, r⟩ := x1
  exact ⟨o, es, ep, t, k o e, r⟩
section
variable {X : Cx}
def KeyV (K : PySem.W.Frag) (H : Hp) (k : List Key) (v : V) : Prop := ∃ b, v = .ref b ∧ SqT K H b (k.map kV)
theorem keyIs_rel {k : Key} {u : Value} (r : RelV (kV k) u) : keyIs k u = true := by
  cases k with
  | inl i => obtain ⟨t, rfl⟩ := r; exact keyIs_int i t
  | inr x => obtain ⟨t, rfl⟩ := r; exact keyIs_str x t
theorem itemsAre_of {P : Program} {w : World} : ∀ {k : List Key} {us : List Value}, Vals (k.map kV) us → ItemsAre (mixKind P w) k us
  | [], _, r => by cases r; exact .nil
  | x :: xs, _, r => by
    cases r with
    | cons r1 r2 => exact .cons (keyIs_rel r1) (itemsAre_of r2)
theorem tupKey_of {pins : List (Addr × Obj)} {σ : L2.St} {H : Hp} {s : Shared} (I : Inv X pins σ H s) {k : List Key} {b : Addr} (h : SqT X.K H b (k.map kV)) : IsTupleKey (mixKind X.prog X.w) s.heap k b := by
  obtain ⟨its, r, ⟨o, ho, hc, n, hd⟩, _⟩ := I.tuple h
  exact ⟨o, its.toArray, n, ho, hc, hd, by simpa using itemsAre_of r⟩
theorem keys_of {pins : List (Addr × Obj)} {σ : L2.St} {H : Hp} {s : Shared} (I : Inv X pins σ H s) : ∀ {ks : List (List Key)} {ys : List V} {us : List Value}, Paired (KeyV X.K H) ks ys → Vals ys us → ∀ (i : Nat) (v : Value), us[i]? = some v → ∃ k b, ks[i]? = some k ∧ v = Value.ref b ∧ IsTupleKey (mixKind X.prog X.w) s.heap k b
  | _, _, _, .nil, r, i, v, e => by cases r; simp at e
  | k :: ks, y :: ys, _, .cons p ps, r, i, v, e => by
    cases r with
    | cons r1 r2 =>
      cases i with
      | zero =>
        simp at e; subst e
        obtain ⟨b, rfl, q⟩ := p
        cases r1
        exact ⟨k, b, rfl, rfl, tupKey_of I q⟩
      | succ i =>
        obtain ⟨k', b, h1, h2, h3⟩ := keys_of I ps r2 i v (by simpa using e)
        exact ⟨k', b, by simpa using h1, h2, h3⟩
theorem tupSet_new {P : Program} {w : World} {h : Heap} (led : Bool) : (h.push (newSetO led)).TupSet (mixKind P w) h.objs.size (fun _ => false) 0 := by
  refine ⟨_, #[], 0, _, Heap.get?_push_size _ rfl, ⟨rfl, rfl, rfl⟩, rfl, ⟨⟨3, Nat.le_refl _, rfl⟩, rfl, List.Pairwise.nil, (by intro j hj; cases hj), rfl, Nat.zero_le _, (by intro x hx; cases hx)⟩, (by intro e he; cases he), ?_, rfl, (show 0 * 5 < 7 * 3 by decide), .inl (show 7 < 8 by decide)⟩
  intro k
  constructor
  · intro h; cases h
  · rintro ⟨e, he, _⟩; cases he
theorem TupSet.keeps {P : Program} {w : World} {h h' : Heap} {a : Addr} {S : List Key → Bool} {n : Nat} (x : h.TupSet (mixKind P w) a S n) {I : Addr} (hI : ∃ o, h.get? I = some o ∧ o.cls ≠ .type "tuple" ∧ o.cls ≠ .type "set") (k : ∀ b o, b ≠ I → h.get? b = some o → h'.get? b = some o) :
    h'.TupSet (mixKind P w) a S n := by
  obtain ⟨o, es, ep, t, ho, hex, hd, g, hel, hmem, hn, r⟩ := x
  obtain ⟨oI, hI, c1, c2⟩ := hI
  have ha : a ≠ I := by
    rintro rfl
    rw [ho] at hI; cases hI
    exact c2 hex.1
  have tk : ∀ k' b, IsTupleKey (mixKind P w) h k' b → IsTupleKey (mixKind P w) h' k' b := fun k' b ⟨ob, its, m, e1, e2, e3⟩ => by
    refine ⟨ob, its, m, k b ob ?_ e1, e2, e3⟩
    rintro rfl
    rw [e1] at hI; cases hI
    exact c1 e2
  have tkr : ∀ k' b, (∃ k'', IsTupleKey (mixKind P w) h k'' b) → IsTupleKey (mixKind P w) h' k' b → IsTupleKey (mixKind P w) h k' b := fun k' b ⟨k'', z⟩ y => by
    have := (tk k'' b z).inj y
    subst this; exact z
  refine ⟨o, es, ep, t, k a o ha ho, hex, hd, g, fun e he => ?_, fun k' => ?_, hn, r⟩
  · obtain ⟨k', b, e1, e2, e3⟩ := hel e he
    exact ⟨k', b, e1, tk _ _ e2, e3⟩
  · rw [hmem k']
    constructor
    · rintro ⟨e, he, b, e1, e2, e3⟩
      exact ⟨e, he, b, e1, tk _ _ e2, e3⟩
    · rintro ⟨e, he, b, e1, e2, e3⟩
      obtain ⟨k'', b'', f1, f2, f3⟩ := hel e he
      rw [e1] at f1; cases f1
      exact ⟨e, he, b, e1, tkr _ _ ⟨k'', f2⟩ e2, e3⟩
def rSetT (X : Cx) : List V → Hp → VK → Prop := fun xs H Q => ∃ p ys ks, xs = [.ref p] ∧ SqL X.K H p ys ∧ Paired (KeyV X.K H) ks ys ∧ ks.length ≤ 999 ∧ ∀ q, H q = none → Q (.ref q) (upd H q (SetN q (ndist ks.reverse)))
theorem call_setT {k0 : Nat} (hr : Room k0 X.A) (hc : X.calm = true) : CallR X (.type "set") (rSetT X) := by
  intro pins s σ H xs us Q I r h
  obtain ⟨p, ys, ks, rfl, hq, hks, hz, q⟩ := h
  obtain ⟨u, rfl, rx⟩ := vals1 r
  cases rx
  obtain ⟨its, rv, pl, _⟩ := I.list hq
  have hlen : ks.length = its.length := by rw [hks.length, rv.length]
  have hkeys := keys_of I hks rv
  have hlt : p < s.heap.objs.size := by obtain ⟨_, _, e, _⟩ := pl; exact Heap.lt_size e
  refine call_set_any fun led E' => ?_
  refine updateFrom_list (s := { s with heap := s.heap.push (newSetO led) }) (items := its.toArray) (by simp [I.ok.hd hc]) (pl.isList.push _) (Nat.ne_of_gt hlt) (by rw [Heap.size_push]; exact Nat.lt_succ_self _)
    (fun i h => h.TupSet (mixKind X.prog X.w) s.heap.objs.size (fun k : List Key => memD k (ks.take i).reverse) (ndist (ks.take i).reverse) ∧ ∀ (j : Nat) (v : Value) (k : List Key) (b : Addr), its[j]? = some v → v = Value.ref b → ks[j]? = some k → IsTupleKey (mixKind X.prog X.w) h k b) ?_ ?_ ?_ ?_ ?_
  · refine ⟨?_, fun j v k b e1 e2 e3 => ?_⟩
    · have := tupSet_new (P := X.prog) (w := X.w) (h := s.heap) led
      simpa [memD_nil, ndist] using this
    · subst e2
      obtain ⟨k', b', h1, h2, h3⟩ := hkeys j _ e1
      rw [e3] at h1; cases h1; cases h2
      obtain ⟨ob, it, m, e1, r⟩ := h3
      exact ⟨ob, it, m, Heap.get?_push_of_some _ e1, r⟩
  · rintro i h h' ⟨oI, hI, cI⟩ ⟨x1, x2⟩ k
    have nt : oI.cls ≠ .type "tuple" := by rw [cI]; decide
    refine ⟨TupSet.keeps x1 ⟨oI, hI, nt, by rw [cI]; decide⟩ k, fun j v k' b e1 e2 e3 => ?_⟩
    obtain ⟨ob, it, m, f1, f2, f3⟩ := x2 j v k' b e1 e2 e3
    refine ⟨ob, it, m, k b ob ?_ f1, f2, f3⟩
    rintro rfl
    rw [f1] at hI; cases hI
    exact nt f2
  · intro h' k
    have x := tupSet_new (P := X.prog) (w := X.w) (h := s.heap) led
    refine ⟨?_, fun j v k' b e1 e2 e3 => ?_⟩
    · obtain ⟨o, es, ep, t, ho, hex, hd, g, hel, hmem, hn, r⟩ := x
      have hes : es = #[] := Array.eq_empty_of_size_eq_zero hn
      subst hes
      refine ⟨o, #[], ep, t, k _ _ ho, hex, hd, g, (by intro e he; cases he), fun k' => ?_, rfl, r⟩
      simp [memD_nil]
    · subst e2
      obtain ⟨k'', b', h1, h2, h3⟩ := hkeys j _ e1
      rw [e3] at h1; cases h1; cases h2
      obtain ⟨ob, it, m, e1, r⟩ := h3
      exact ⟨ob, it, m, k _ _ (Heap.get?_push_of_some _ e1), r⟩
  · rintro i v s' Q' E'' hv ⟨x1, x2⟩ hq'
    have hv' : its[i]? = some v := by simpa using hv
    obtain ⟨k, b, h1, h2, _⟩ := hkeys i v hv'
    subst h2
    have hkb := x2 i _ k b hv' rfl h1
    have hi : i < ks.length := (List.getElem?_eq_some_iff.mp h1).1
    have hu : X.A.in1.in1.in1.units < cLine := by have := hr.un; show X.A.units + 1 + 1 + 1 < cLine; omega
    unfold setAdd
    refine wpAny_holding (wpAny_bind (wpAny_pyHash_tuple hu hkb ?_))
    have hroom : ndist (ks.take i).reverse < 1000 := by
      have := ndist_le (ks.take i).reverse
      rw [List.length_reverse, List.length_take] at this
      omega
    refine wpAny_setAdd_tup (s := { s' with toks := s'.toks + (k.length + 1) }) hu x1 hkb hroom fun h' hsb hS => ?_
    refine hq' h' _ _ hsb ⟨?_, fun j v k' b' e1 e2 e3 => ?_⟩
    · rw [take_rev h1]
      have e1 : (fun k' => memD k' (k :: (ks.take i).reverse)) = fun k' => memD k' (ks.take i).reverse || decide (k' = k) := funext fun k' => memD_cons _ _ _
      rw [e1, ndist_cons]
      exact hS
    · obtain ⟨o, es, ep, t, ho, _, hd, _⟩ := x1
      exact (x2 j v k' b' e1 e2 e3).but ho hd hsb
  · rintro h' tk ⟨x1, _⟩ hk
    have hsz : its.toArray.size = ks.length := by rw [List.size_toArray, hlen]
    rw [hsz, List.take_length] at x1
    have x3 : sizeIs s.heap.objs.size (ndist ks.reverse) h' := by
      obtain ⟨o, es, ep, t, ho, hex, hd, g, _, _, hn, _⟩ := x1
      exact ⟨o, es, ep, t, ho, hex, hd, by have := g.fits; simpa using this, hn⟩
    refine ⟨.ref s.heap.objs.size, _, I.laid (t' := tk) (fun b o e => ?_) (Nat.le_refl _) (sizeIs_ok x3), rfl, q _ (I.hok.fresh (Nat.le_refl _))⟩
    have hb := Heap.lt_size e
    refine hk b o ?_ (Nat.ne_of_lt hb) (Heap.get?_push_of_some _ e)
    rw [Heap.size_push]; exact Nat.lt_succ_of_lt hb
theorem call_len_set : CallR X (.builtin "len") (fun xs H Q => ∃ a n, xs = [.ref a] ∧ H a = some (SetN a n) ∧ n ≤ 100000 ∧ Q (.int n) H) := by
  intro pins s σ H xs us Q I r h
  obtain ⟨a, n, rfl, ha, hn, q⟩ := h
  obtain ⟨u, rfl, rx⟩ := vals1 r
  cases rx
  obtain ⟨⟨o, es, ep, t, ho, hex, hd, hf, e⟩, _⟩ := (show ObjOk X.prog X.w H s.heap a (SetN a n) from I.hok a _ ha)
  exact PySem.call_len_set ho hex hd hf (by omega) ⟨.int n, H, I.tok _, ⟨_, by rw [e]⟩, q⟩
end
end L3

namespace L3
open PySem PySem.Spec PyProof.Rows L2
section
variable {X : Cx}
theorem keysV : ∀ {ks : List Key} {us : List Value}, Vals (ks.map kV) us → ∀ (i : Nat) (v : Value), us[i]? = some v → ∃ k, ks[i]? = some k ∧ keyIs k v = true ∧ v.scannable = true
  | [], _, r, i, v, e => by cases r; simp at e
  | k :: ks, _, r, i, v, e => by
    cases r with
    | cons r1 r2 =>
      cases i with
      | zero =>
        simp at e; subst e
        refine ⟨k, rfl, keyIs_rel r1, ?_⟩
        cases k with
        | inl i => obtain ⟨t, rfl⟩ := r1; rfl
        | inr x => obtain ⟨t, rfl⟩ := r1; rfl
      | succ i =>
        obtain ⟨k', h1, h2⟩ := keysV r2 i v (by simpa using e)
        exact ⟨k', by simpa using h1, h2⟩
def rSetK (X : Cx) : List V → Hp → VK → Prop := fun xs H Q => ∃ (p : Addr) (ks : List Key), xs = [.ref p] ∧ SqL X.K H p (ks.map kV) ∧ ks.length ≤ 4000 ∧ ∀ q, H q = none → Q (.ref q) (upd H q (SetN q (ndist ks.reverse)))
theorem call_setK (hc : X.calm = true) : CallR X (.type "set") (rSetK X) := by
  intro pins s σ H xs us Q I r h
  obtain ⟨p, ks, rfl, hq, hz, q⟩ := h
  obtain ⟨u, rfl, rx⟩ := vals1 r
  cases rx
  obtain ⟨its, rv, pl, _⟩ := I.list hq
  have hlen : ks.length = its.length := by rw [← rv.length, List.length_map]
  have hkeys := keysV rv
  have hlt : p < s.heap.objs.size := by obtain ⟨_, _, e, _⟩ := pl; exact Heap.lt_size e
  refine call_set_any fun led E' => ?_
  have st0 : (s.heap.push (newSetO led)).SetOf (mixKind X.prog X.w) s.heap.objs.size (fun k => memD k (ks.take 0).reverse) (ndist (ks.take 0).reverse) := by
    refine ⟨_, #[], 0, _, Heap.get?_push_size _ rfl, ⟨rfl, rfl, rfl⟩, rfl, (by intro e he; cases he), fun k => ?_, (by decide), rfl, rfl⟩
    simp [memD_nil]
  refine updateFrom_list (s := { s with heap := s.heap.push (newSetO led) }) (items := its.toArray) (by simp [I.ok.hd hc]) (pl.isList.push _) (Nat.ne_of_gt hlt) (by rw [Heap.size_push]; exact Nat.lt_succ_self _)
    (fun i h => h.SetOf (mixKind X.prog X.w) s.heap.objs.size (fun k => memD k (ks.take i).reverse) (ndist (ks.take i).reverse)) st0 ?_ ?_ ?_ ?_
  · rintro i h h' ⟨oI, hI, cI⟩ ⟨o, es, ep, t, ho, hex, r⟩ k
    refine ⟨o, es, ep, t, k _ o ?_ ho, hex, r⟩
    intro z
    rw [z, hI] at ho; cases ho
    exact absurd (cI.symm.trans hex.1) (by decide)
  · intro h' k
    obtain ⟨o, es, ep, t, ho, r⟩ := st0
    exact ⟨o, es, ep, t, k _ _ ho, r⟩
  · rintro i v s' Q' E'' hv x1 hq'
    obtain ⟨k, h1, h2, h3⟩ := hkeys i v (by simpa using hv)
    have hi : i < ks.length := (List.getElem?_eq_some_iff.mp h1).1
    unfold setAdd
    refine wpAny_holding (wpAny_bind ((mixKind X.prog X.w).pyHash (k := k) h2 ?_))
    have hroom : ndist (ks.take i).reverse + 1 < scanBound := by
      have := ndist_le (ks.take i).reverse
      rw [List.length_reverse, List.length_take] at this
      unfold scanBound; omega
    refine wpAny_setAddHashed_of (knd := mixKind X.prog X.w) (s := { s' with toks := s'.toks + 1 }) h2 h3 x1 hroom fun h' hsb hS => ?_
    refine hq' h' _ _ hsb ?_
    show h'.SetOf (mixKind X.prog X.w) s.heap.objs.size (fun k => memD k (ks.take (i + 1)).reverse) (ndist (ks.take (i + 1)).reverse)
    rw [take_rev h1, ndist_cons, show (fun k' => memD k' (k :: (ks.take i).reverse)) = fun k' => memD k' (ks.take i).reverse || decide (k' = k) from funext fun k' => memD_cons _ _ _]
    exact hS
  · intro h' tk x1 hk
    have hsz : its.toArray.size = ks.length := by rw [List.size_toArray, hlen]
    rw [hsz, List.take_length] at x1
    have x3 : sizeIs s.heap.objs.size (ndist ks.reverse) h' := by
      obtain ⟨o, es, ep, t, ho, hex, hd, _, _, _, hf, hn⟩ := x1
      exact ⟨o, es, ep, t, ho, hex, hd, hf, hn⟩
    refine ⟨.ref s.heap.objs.size, _, I.laid (t' := tk) (fun b o e => ?_) (Nat.le_refl _) (sizeIs_ok x3), rfl, q _ (I.hok.fresh (Nat.le_refl _))⟩
    have hb := Heap.lt_size e
    refine hk b o ?_ (Nat.ne_of_lt hb) (Heap.get?_push_of_some _ e)
    rw [Heap.size_push]; exact Nat.lt_succ_of_lt hb
theorem call_set {k0 : Nat} (hr : Room k0 X.A) (hc : X.calm = true) : CallR X (.type "set") (fun xs H Q => rSetT X xs H Q ∨ rSetK X xs H Q) := CallR.or (call_setT hr hc) (call_setK hc)
end
theorem bt_set : bootBuiltins "set" = some (.type "set") := by decide +kernel
end L3

/-! Marks, steps, scribes in the heap; what stays while lists change. -/
namespace L3
open PySem PySem.Spec PyProof.Rows L2
abbrev Mk := Int × Str
abbrev Stp := Int × Str × Str × Int
def Grow (H H' : Hp) : Prop := ∀ b o, H b = some o → (∀ xs, o ≠ .lst xs) → H' b = some o
theorem Same.grow {H H' : Hp} (g : Same H H') : Grow H H' := fun b o h _ => g b o h
theorem grow_upd {H : Hp} {p : Addr} {xs : List V} (h : H p = some (.lst xs)) (o : HO) : Grow H (upd H p o) := fun b u q n => by
  rw [upd_ne]
  · exact q
  · rintro rfl; rw [h] at q; cases q; exact n xs rfl
theorem grow_new {H : Hp} {p : Addr} (h : H p = none) (o : HO) : Grow H (upd H p o) := Same.grow (same_new h o)
theorem Grow.seqT {K : PySem.W.Frag} {H H' : Hp} {a : Addr} {xs : List V} (e : Grow H H') (h : SqT K H a xs) : SqT K H' a xs := by
  rcases h with (h | ⟨o, h⟩) | h
  · exact .inl (.inl (e _ _ h (by intro _ q; cases q)))
  · exact .inl (.inr ⟨o, e _ _ h (by intro _ q; cases q)⟩)
  · exact .inr h
def MkV (K : PySem.W.Frag) (H : Hp) (m : Mk) (v : V) : Prop := ∃ b, v = .ref b ∧ SqT K H b [.int m.1, .str m.2]
def StV (K : PySem.W.Frag) (H : Hp) (t : Stp) (v : V) : Prop := ∃ b, v = .ref b ∧ SqT K H b [.int t.1, .str t.2.1, .str t.2.2.1, .int t.2.2.2]
theorem MkV.mono {K : PySem.W.Frag} {H H' : Hp} {m : Mk} {v : V} (g : Grow H H') : MkV K H m v → MkV K H' m v := fun ⟨b, e, h⟩ => ⟨b, e, g.seqT h⟩
theorem StV.mono {K : PySem.W.Frag} {H H' : Hp} {m : Stp} {v : V} (g : Grow H H') : StV K H m v → StV K H' m v := fun ⟨b, e, h⟩ => ⟨b, e, g.seqT h⟩
theorem paired_mono {α β : Type} {F G : α → β → Prop} (h : ∀ a b, F a b → G a b) : ∀ {xs : List α} {ys : List β}, Paired F xs ys → Paired G xs ys
  | _, _, .nil => .nil
  | _, _, .cons p q => .cons (h _ _ p) (paired_mono h q)
theorem paired_append {α β : Type} {F : α → β → Prop} : ∀ {xs xs' : List α} {ys ys' : List β}, Paired F xs ys → Paired F xs' ys' → Paired F (xs ++ xs') (ys ++ ys')
  | _, _, _, _, .nil, q => q
  | _, _, _, _, .cons p r, q => .cons p (paired_append r q)
theorem paired_get {α β : Type} {F : α → β → Prop} : ∀ {xs : List α} {ys : List β} {i : Nat} {y : β}, Paired F xs ys → ys[i]? = some y → ∃ x, xs[i]? = some x ∧ F x y
  | _, _, _, _, .nil, e => by simp at e
  | _, _, 0, _, .cons p _, e => by simp at e; subst e; exact ⟨_, rfl, p⟩
  | _, _, i + 1, y, .cons _ q, e => by
    obtain ⟨x, h1, h2⟩ := paired_get (i := i) (y := y) q (by simpa using e)
    exact ⟨x, by simpa using h1, h2⟩
structure Scr where
  signs : Str
  rooms : Int
  begins : List Mk
  steps : List Stp
  ends : List Mk
def ScV (K : PySem.W.Frag) (H : Hp) (s : Scr) (v : V) (pb ps pe : Addr) : Prop := ∃ a xb xs xe, v = .ref a ∧ SqT K H a [.str s.signs, .int s.rooms, .ref pb, .ref ps, .ref pe] ∧ SqL K H pb xb ∧ SqL K H ps xs ∧ SqL K H pe xe ∧
  Paired (MkV K H) s.begins xb ∧ Paired (StV K H) s.steps xs ∧ Paired (MkV K H) s.ends xe
theorem ScV.mono {K : PySem.W.Frag} {H H' : Hp} {s : Scr} {v : V} {pb ps pe : Addr} (g : Same H H') : ScV K H s v pb ps pe → ScV K H' s v pb ps pe
  | ⟨a, xb, xs, xe, e, h1, h2, h3, h4, h5, h6, h7⟩ => ⟨a, xb, xs, xe, e, Same.seqT g h1, g.seq h2, g.seq h3, g.seq h4, paired_mono (fun _ _ => MkV.mono (Same.grow g)) h5, paired_mono (fun _ _ => StV.mono (Same.grow g)) h6, paired_mono (fun _ _ => MkV.mono (Same.grow g)) h7⟩
/-! as deep data -/
def dMk (m : Mk) : D := .tup [.int m.1, .str m.2]
def dSt (t : Stp) : D := .tup [.int t.1, .str t.2.1, .str t.2.2.1, .int t.2.2.2]
def dScr (s : Scr) : D := .tup [.str s.signs, .int s.rooms, .lst (s.begins.map dMk), .lst (s.steps.map dSt), .lst (s.ends.map dMk)]
theorem rep_int {K : PySem.W.Frag} {H : Hp} (i : Int) : Rep K H (.int i) (.int i) := by unfold Rep; rfl
theorem rep_str {K : PySem.W.Frag} {H : Hp} (x : Str) : Rep K H (.str x) (.str x) := by unfold Rep; rfl
theorem rep_bl {K : PySem.W.Frag} {H : Hp} (x : Bool) : Rep K H (.bl x) (.bl x) := by unfold Rep; rfl
theorem rep_non {K : PySem.W.Frag} {H : Hp} : Rep K H .non .non := by unfold Rep; rfl
theorem rep_tup {K : PySem.W.Frag} {H : Hp} {a : Addr} {xs : List V} {ds : List D} (h : SqT K H a xs) (r : Reps K H ds xs) : Rep K H (.tup ds) (.ref a) := by unfold Rep; exact ⟨a, xs, rfl, h, r⟩
theorem rep_lst {K : PySem.W.Frag} {H : Hp} {a : Addr} {xs : List V} {ds : List D} (h : SqL K H a xs) (r : Reps K H ds xs) : Rep K H (.lst ds) (.ref a) := by unfold Rep; exact ⟨a, xs, rfl, h, r⟩
theorem MkV.rep {K : PySem.W.Frag} {H : Hp} {m : Mk} {v : V} : MkV K H m v → Rep K H (dMk m) v
  | ⟨_, e, h⟩ => by subst e; exact rep_tup h (.cons (rep_int _) (.cons (rep_str _) .nil))
theorem StV.rep {K : PySem.W.Frag} {H : Hp} {m : Stp} {v : V} : StV K H m v → Rep K H (dSt m) v
  | ⟨_, e, h⟩ => by subst e; exact rep_tup h (.cons (rep_int _) (.cons (rep_str _) (.cons (rep_str _) (.cons (rep_int _) .nil))))
theorem reps_of {K : PySem.W.Frag} {H : Hp} {α : Type} {F : α → V → Prop} {f : α → D} (h : ∀ a v, F a v → Rep K H (f a) v) : ∀ {xs : List α} {vs : List V}, Paired F xs vs → Reps K H (xs.map f) vs
  | _, _, .nil => .nil
  | _, _, .cons p q => .cons (h _ _ p) (reps_of h q)
theorem ScV.rep {K : PySem.W.Frag} {H : Hp} {s : Scr} {v : V} {pb ps pe : Addr} : ScV K H s v pb ps pe → Rep K H (dScr s) v
  | ⟨a, xb, xs, xe, e, h1, h2, h3, h4, h5, h6, h7⟩ => by
    subst e
    exact rep_tup h1 (.cons (rep_str _) (.cons (rep_int _) (.cons (rep_lst h2 (reps_of (f := dMk) (F := MkV K H) (fun _ _ h => MkV.rep h) h5)) (.cons (rep_lst h3 (reps_of (f := dSt) (F := StV K H) (fun _ _ h => StV.rep h) h6)) (.cons (rep_lst h4 (reps_of (f := dMk) (F := MkV K H) (fun _ _ h => MkV.rep h) h7)) .nil)))))
theorem deeps_map {α : Type} (f : α → D) (n : Nat) (h : ∀ a, deep (f a) ≤ n) : ∀ xs : List α, deeps (xs.map f) ≤ n
  | [] => by rw [List.map_nil, deeps]; exact Nat.zero_le _
  | x :: xs => by
    have h1 := h x
    have h2 := deeps_map f n h xs
    rw [List.map_cons, deeps]; omega
theorem deep_dMk (m : Mk) : deep (dMk m) ≤ 1 := by unfold dMk; simp [deep, deeps]
theorem deep_dSt (m : Stp) : deep (dSt m) ≤ 1 := by unfold dSt; simp [deep, deeps]
theorem deep_dScr (s : Scr) : deep (dScr s) ≤ 3 := by
  have h1 := deeps_map dMk 1 deep_dMk s.begins
  have h2 := deeps_map dSt 1 deep_dSt s.steps
  have h3 := deeps_map dMk 1 deep_dMk s.ends
  unfold dScr
  simp only [deep, deeps]
  omega
theorem eqD_dMk (a b : Mk) : eqD (dMk a) (dMk b) = decide (a = b) := by
  obtain ⟨i, x⟩ := a; obtain ⟨j, y⟩ := b
  unfold dMk
  simp only [eqD, eqDs, Bool.and_true]
  by_cases h1 : i = j <;> by_cases h2 : x = y <;> simp [h1, h2]
theorem eqD_dSt (a b : Stp) : eqD (dSt a) (dSt b) = decide (a = b) := by
  obtain ⟨i, x, z, k⟩ := a; obtain ⟨j, y, u, l⟩ := b
  unfold dSt
  simp only [eqD, eqDs, Bool.and_true]
  by_cases h1 : i = j <;> by_cases h2 : x = y <;> by_cases h3 : z = u <;> by_cases h4 : k = l <;> simp [h1, h2, h3, h4]
theorem any_mem {α : Type} [DecidableEq α] (f : α → D) (h : ∀ a b, eqD (f a) (f b) = decide (a = b)) (x : α) : ∀ xs : List α, ((xs.map f).any fun e => eqD e (f x)) = decide (x ∈ xs)
  | [] => by simp
  | y :: ys => by
    rw [List.map_cons, List.any_cons, any_mem f h x ys, h]
    by_cases c : y = x
    · simp [c]
    · simp [c, show ¬ x = y from fun q => c q.symm]
/-! ### the list's insert; a number of the module -/
section
variable {X : Cx}
theorem pe_globI {x : Str} {i : Int} {pos : Pos} (hg : Gl X x) (hm : ∃ t, X.mg x = some (.int i t)) (hd : (x == ("__debug__" : Str)) = false := by decide) : PE X (.Name x pos) (tC (.int i)) := by
  obtain ⟨t, hm⟩ := hm
  exact pe_glob hg hm ⟨t, rfl⟩ hd
end
/-! in a block: the fragment named outright -/
theorem kIx {X : Cx} {K : PySem.W.Frag} (r : PySem.W.Frag → R2) (h : IxR X (r X.K)) (e : X.K = K := by rfl) : IxR X (r K) := e ▸ h
theorem kSl {X : Cx} {K : PySem.W.Frag} (r : PySem.W.Frag → V → Option Int → Option Int → Hp → VK → Prop) (h : SlR X (r X.K)) (e : X.K = K := by rfl) : SlR X (r K) := e ▸ h
theorem kOp {X : Cx} {K : PySem.W.Frag} {f : Value → Value → Sem Value} (r : PySem.W.Frag → R2) (h : OpR X f (r X.K)) (e : X.K = K := by rfl) : OpR X f (r K) := e ▸ h
def rLenS (K : PySem.W.Frag) : List V → Hp → VK → Prop := fun xs H Q => ∃ p ys, xs = [.ref p] ∧ (SqL K H p ys ∨ SqT K H p ys) ∧ Q (.int ys.length) H
theorem kLen {X : Cx} {K : PySem.W.Frag} (e : X.K = K := by rfl) : CallR X (.builtin "len") (rLenS K) := e ▸ call_len_seq
theorem is_list {K : PySem.W.Frag} : PySem.W.kitOne K (.type "list") (.type "list") = some true := rfl
end L3

/-! Exceptions of own classes: raised, passing frames. -/
namespace L3
open PySem PySem.Spec PyProof.Rows L2
theorem ObjOk.there {P : Program} {w : World} {H : Hp} {h : Heap} : ∀ {a : Addr} {o : HO}, ObjOk P w H h a o → ∃ ob, h.get? a = some ob
  | _, .lst _, x => let ⟨_, _, _, _, e⟩ := x; ⟨_, e⟩
  | _, .tup _, x => let ⟨_, _, _, o, e, _⟩ := x; ⟨o, e⟩
  | _, .dK _, x => let ⟨_, _, _, _, o, _, _, e, _⟩ := x; ⟨o, e⟩
  | _, .dT _, x => let ⟨_, _, _, _, o, _, _, e, _⟩ := x; ⟨o, e⟩
  | _, .set _ _, x => let ⟨o, _, _, _, e, _⟩ := x; ⟨o, e⟩
  | _, .ins _ _ _, x => let ⟨_, _, _, e, _⟩ := x; ⟨_, e⟩
  | _, .own _, x => x
  | _, .xd _, x => let ⟨_, ⟨o, _, _, e, _⟩, _⟩ := x; ⟨o, e⟩
  | _, .met _ _, x => ⟨_, x⟩
  | _, .rng _ _, x => let ⟨_, _, _, e⟩ := x; ⟨_, e⟩
  | _, .frz o _, x => ⟨o, x.1⟩
  | _, .tbl _, x => ⟨_, x⟩
  | _, .ext _, x => x.2.1
structure Fly (P : Program) (w : World) (st : List Env) (H : Hp) (s : Shared) (x C : Addr) (H' : Hp) (s' : Shared) (B : Heap) : Prop where
  os : s'.os = s.os
  bare : AllBare s'.gens
  un : Un (frs st) [] H H' s.heap s'.heap
  hok : HOk P w H' s'.heap
  fl : ∃ t, Heap.FlyingW B st x (.ref C) (.ref t) s'.heap
  new : s.heap.get? x = none
  xf : H' x = none
  tr : ∀ b o, H' b ≠ none → s'.heap.get? b = some o → B.get? b = some o
  ol : ∀ b o, s.heap.get? b = some o → H b = none → b ∉ frs st → B.get? b = some o
  th : ∀ b o, s.heap.get? b = some o → b ∉ frs st → ∃ o', B.get? b = some o'
  ff : ∀ b ∈ frs st, H' b = none
def CX1 (P : Program) (w : World) : CXT := fun st H s E e s' => ∃ x C H' B, e = .ref x ∧ Fly P w st H s x C H' s' B ∧ E (.ref C) none H'
section
variable {P : Program} {w : World} {st : List Env} {H H' : Hp} {s s' : Shared} {x C : Addr} {B : Heap}
theorem Fly.turn (F : Fly P w st H s x C H' s' B) {h2 : Heap} (k : B.StaysIn h2) (u : s'.heap.UpToSlots h2) : Un (frs st) [] H H' s.heap h2 ∧ HOk P w H' h2 := by
  have slot : ∀ b ∈ frs st, ∀ o, s'.heap.get? b = some o → ∃ sl, h2.get? b = some { o with slots := sl } := fun b hb o q => by
    obtain ⟨t, fl⟩ := F.fl
    obtain ⟨_, o', e, d⟩ := fl.2.2.1.mem hb
    rw [q] at e; cases e
    exact u b o q d
  refine ⟨⟨fun b o q n hb _ => k b o (F.ol b o q n hb), fun b o q n hb hx => ?_, F.un.free, fun b o q hx => ?_, F.un.tups, F.un.frzs, F.un.tbls⟩, fun a o e => ?_⟩
  · obtain ⟨sl, e⟩ := F.un.slot b o q n hb hx
    obtain ⟨sl', e'⟩ := slot b hb _ e
    exact ⟨sl', e'⟩
  · by_cases hb : b ∈ frs st
    · obtain ⟨o', e⟩ := F.un.there b o q hx
      obtain ⟨sl, e'⟩ := slot b hb _ e
      exact ⟨_, e'⟩
    · obtain ⟨o', e⟩ := F.th b o q hb
      exact ⟨o', k b o' e⟩
  · refine (F.hok a o e).stay (fun b v hb q => ?_) (fun _ q => q) fun _ _ q => q
    refine k b v (F.tr b v ?_ q)
    rcases hb with rfl | hb
    · rw [e]; simp
    · rw [hb]; simp
end
section
variable {X : Cx} {pins : List (Addr × Obj)} {σ : L2.St} {H : Hp} {s : Shared}
theorem raise_fly {M : Model} {h2 : Heap} {x C : Addr} {vs : List Value} {Q : Unit → Shared → Prop} {E : Value → Shared → Prop} (I : Inv X pins σ H s) (hst : X.stack = X.env :: X.outer) (hfm : X.env.frame = some X.env.locals) (hex : X.ex = []) (hx : Heap.MadeExcOf s.heap h2 x (.ref C) vs)
    (q : ∀ h' B, Fly X.prog X.w X.outer X.H₀ X.s₀ x C H { s with heap := h' } B → Q () { s with heap := h' }) : wpAny M X.A (leaving X.env (.ref x)) Q E { s with heap := h2 } := by
  have hfr : X.A.frames = some (X.env :: X.outer) := by rw [← hst]; exact I.ok.frames
  have hstk := I.stack
  have inB : ∀ b o, s.heap.get? b = some o → b ∉ frs X.stack → (PySem.W.hideAll s.heap (frs X.stack)).get? b = some o := fun b o e n => PySem.W.hideAll_get _ e n
  have nst : ∀ b o, X.s₀.heap.get? b = some o → b ∉ X.fs → b ∉ frs X.stack := fun b o e n hb => by
    rcases List.mem_cons.mp (I.stkSub b hb) with z | z
    · exact absurd (Nat.lt_of_lt_of_le (Heap.lt_size e) I.ok.above) (by rw [z]; exact Nat.lt_irrefl _)
    · exact n z
  have noex : ∀ b : Addr, b ∉ X.ex := fun b => by rw [hex]; simp
  have fsub : ∀ b ∈ X.fs, b ∈ frs X.stack := fun b hb => by
    rw [hst]; unfold frs; rw [List.filterMap_cons, hfm]; exact List.mem_cons_of_mem _ hb
  have hff := PySem.W.funFrames_hide (as := frs X.stack) hstk (fun env he a ha => List.mem_filterMap.mpr ⟨env, he, ha⟩)
  rw [hst] at hff
  refine wpAny_leaves_madeW (base := PySem.W.hideAll s.heap (frs (X.env :: X.outer))) (h := s.heap) (s := { s with heap := h2 }) (L := X.env.locals) hfr hfm (fun b o e => PySem.W.of_hideAll _ e) hff hx fun h' t f1 f2 f3 f4 => ?_
  rw [← hst] at f1 f3
  have keepB : ∀ b o, s.heap.get? b = some o → b ∉ frs X.stack → h'.get? b = some o := fun b o e n => f1.1 b o (inB b o e n)
  have slot : ∀ b ∈ frs X.stack, ∀ o, s.heap.get? b = some o → ∃ sl, h'.get? b = some { o with slots := sl } := fun b hb o e => by
    obtain ⟨_, o', e', d⟩ := hstk.mem hb
    rw [e] at e'; cases e'
    exact f4 b o (hx.keeps b o e) d
  have xnew : X.s₀.heap.get? x = none := by
    cases e : X.s₀.heap.get? x with
    | none => rfl
    | some o =>
      obtain ⟨o', e'⟩ := I.base.there x o e (noex x)
      rw [hx.new] at e'; cases e'
  refine q h' _ ⟨I.os, I.bare, ⟨fun b o e n hb _ => ?_, fun b o e n hb _ => ?_, fun b o e n _ => I.base.free b o e n (noex b), fun b o e _ => ?_, I.base.tups, I.base.frzs, I.base.tbls⟩, fun a u e => ?_, ⟨t, f1⟩, xnew, ?_, fun b o hb e => ?_, fun b o e n hb => ?_, fun b o e hb => ?_, fun b hb => ?_⟩
  · exact keepB b o (I.base.keep b o e n hb (noex b)) (nst b o e hb)
  · obtain ⟨sl, e1⟩ := I.base.slot b o e n hb (noex b)
    obtain ⟨sl', e2⟩ := slot b (fsub b hb) _ e1
    exact ⟨sl', e2⟩
  · obtain ⟨o', e1⟩ := I.base.there b o e (noex b)
    by_cases hb : b ∈ frs X.stack
    · obtain ⟨sl, e2⟩ := slot b hb _ e1
      exact ⟨_, e2⟩
    · exact ⟨o', keepB b o' e1 hb⟩
  · refine (I.hok a u e).stay (fun b v hb q => keepB b v q fun z => ?_) (fun _ q => q) fun _ _ q => q
    have := I.stkFree b z
    rcases hb with rfl | hb
    · rw [e] at this; cases this
    · rw [hb] at this; cases this
  · cases e : H x with
    | none => rfl
    | some u =>
      obtain ⟨o, e'⟩ := ObjOk.there (I.hok x u e)
      rw [hx.new] at e'; cases e'
  · cases e' : H b with
    | none => exact absurd e' hb
    | some u =>
      obtain ⟨o1, e1⟩ := ObjOk.there (I.hok b u e')
      have nb : b ∉ frs X.stack := fun z => by have := I.stkFree b z; rw [e'] at this; cases this
      have e2 := keepB b o1 e1 nb
      have e3 : h'.get? b = some o := e
      rw [e3] at e2; cases e2
      exact inB b o e1 nb
  · exact inB b o (I.base.keep b o e n hb (noex b)) (nst b o e hb)
  · obtain ⟨o', e1⟩ := I.base.there b o e (noex b)
    exact ⟨o', inB b o' e1 (nst b o e hb)⟩
  · exact I.stkFree b (fsub b hb)
theorem pass_fly {M : Model} {s2 : Shared} {H2 : Hp} {x C : Addr} {B : Heap} {Q : Unit → Shared → Prop} {E : Value → Shared → Prop} (I : Inv X pins σ H s) (hst : X.stack = X.env :: X.outer) (hfm : X.env.frame = some X.env.locals) (hex : X.ex = []) (F : Fly X.prog X.w X.stack H s x C H2 s2 B)
    (q : ∀ h', Fly X.prog X.w X.outer X.H₀ X.s₀ x C H2 { s2 with heap := h' } B → Q () { s2 with heap := h' }) : wpAny M X.A (leaving X.env (.ref x)) Q E s2 := by
  have hfr : X.A.frames = some (X.env :: X.outer) := by rw [← hst]; exact I.ok.frames
  obtain ⟨t, fl⟩ := F.fl
  have nst : ∀ b o, X.s₀.heap.get? b = some o → b ∉ X.fs → b ∉ frs X.stack := fun b o e n hb => by
    rcases List.mem_cons.mp (I.stkSub b hb) with z | z
    · exact absurd (Nat.lt_of_lt_of_le (Heap.lt_size e) I.ok.above) (by rw [z]; exact Nat.lt_irrefl _)
    · exact n z
  have noex : ∀ b : Addr, b ∉ X.ex := fun b => by rw [hex]; simp
  have fsub : ∀ b ∈ X.fs, b ∈ frs X.stack := fun b hb => by
    rw [hst]; unfold frs; rw [List.filterMap_cons, hfm]; exact List.mem_cons_of_mem _ hb
  have fl' := fl
  rw [hst] at fl'
  refine wpAny_leaves_onW hfr hfm fl' fun h' f1 f2 => ?_
  obtain ⟨un, hok⟩ := F.turn f1.1 f2
  have xnew : X.s₀.heap.get? x = none := by
    cases e : X.s₀.heap.get? x with
    | none => rfl
    | some o =>
      obtain ⟨o', e'⟩ := I.base.there x o e (noex x)
      rw [F.new] at e'; cases e'
  refine q h' ⟨?_, F.bare, ⟨fun b o e n hb _ => ?_, fun b o e n hb _ => ?_, fun b o e n _ => ?_, fun b o e _ => ?_, fun b xs e => un.tups b xs (I.base.tups b xs e), fun b o u e => un.frzs b o u (I.base.frzs b o u e), fun b ps e => ?_⟩, hok, ⟨t, f1⟩, xnew, F.xf, fun b o hb e => ?_, fun b o e n hb => ?_, fun b o e hb => ?_, fun b hb => F.ff b (fsub b hb)⟩
  · exact F.os.trans I.os
  · exact un.keep b o (I.base.keep b o e n hb (noex b)) (I.base.free b o e n (noex b)) (nst b o e hb) (by simp)
  · obtain ⟨sl, e1⟩ := I.base.slot b o e n hb (noex b)
    obtain ⟨sl', e2⟩ := un.slot b _ e1 (I.base.free b o e n (noex b)) (fsub b hb) (by simp)
    exact ⟨sl', e2⟩
  · obtain ⟨o', e1⟩ := I.base.there b o e (noex b)
    exact un.free b o' e1 (I.base.free b o e n (noex b)) (by simp)
  · obtain ⟨o', e1⟩ := I.base.there b o e (noex b)
    exact un.there b o' e1 (by simp)
  · obtain ⟨m1, e1⟩ := I.base.tbls b ps e
    obtain ⟨m2, e2⟩ := un.tbls b _ e1
    exact ⟨m1 ++ m2, by rw [e2, Array.append_assoc]⟩
  · cases e' : H2 b with
    | none => exact absurd e' hb
    | some u =>
      obtain ⟨o1, e1⟩ := ObjOk.there (F.hok b u e')
      have e2 := F.tr b o1 hb e1
      have e3 := f1.1 b o1 e2
      have e4 : h'.get? b = some o := e
      rw [e4] at e3; cases e3
      exact e2
  · exact F.ol b o (I.base.keep b o e n hb (noex b)) (I.base.free b o e n (noex b)) (nst b o e hb)
  · obtain ⟨o', e1⟩ := I.base.there b o e (noex b)
    exact F.th b o' e1 (nst b o e hb)
end
end L3

/-! An exception object of an own class: its class, isinstance; a clause that takes it. -/
namespace L3
open PySem PySem.Spec PyProof.Rows L2 PySem.W PySem.Builtin PySem.Builtin.ObjectAttr PySem.Builtin.Getset_descriptor PySem.Calls
def XAt (x C : Addr) : Heap → Prop := fun h => ∃ o, h.get? x = some o ∧ o.cls = .ref C
structure XCls (K : Frag) (C : Addr) : Prop where
  ga : findIn K (.ref C) "__getattribute__" = some (some (.builtin "BaseException.__getattribute__"))
  gh : findIn K (.ref C) "__getattr__" = some none
  bs : mroIn K C (.type "BaseException") = some true
  cl : (clsIn K C).isSome = true
  ha : findIn K (.ref C) "__class__" = some (some (.builtin "object.__class__"))
  hn : specialIn K (.builtin "object.__class__") "__get__" = some (some (.builtin "getset_descriptor.__get__"))
  htk : takesIn K (.builtin "object.__class__") = some true
  hm : mroIn K C (.type "object") = some true
section
variable {prog : Program} {w : World} {A : Around} {E : Value → Shared → Prop} {s : Shared} {K : Frag} {x C : Addr}
theorem x_type {M : Model} {h : Heap} (I : XAt x C h) : Looks M h (typeOf (.ref x)) (.ref C) := by
  obtain ⟨o, e, c⟩ := I
  exact c ▸ (Looks.ld e).andThen .now
theorem x_find {M : Model} {h : Heap} (X : K.In h) (c : XCls K C) : Looks M h (find (.ref x) (.ref C) "__class__") (.bind (.builtin "getset_descriptor.__get__") (.builtin "object.__class__")) := by
  have l1 := looks_findIn (M := M) X c.ha
  have l2 : Looks M h (getOf (some (.builtin "object.__class__"))) (some (.builtin "getset_descriptor.__get__")) := looks_specialIn X c.hn
  have l3 := looks_takesIn (M := M) X c.htk
  refine l1.andThen (l2.andThen ?_)
  exact (show Looks M h (dataDescriptor? (some (.builtin "object.__class__")) (some (.builtin "getset_descriptor.__get__"))) (some (.builtin "getset_descriptor.__get__", .builtin "object.__class__")) from l3.andThen .now).andThen (Looks.tag .now)
theorem x_get {R : Result → Shared → Prop} {tp : Value} (X : K.In s.heap) (I : XAt x C s.heap) (hm : mroIn K C (.type "object") = some true) (h : R (.ok (.ret (.ref C))) s) :
    codeAny (model prog w) A (.call (.builtin "getset_descriptor.__get__") ⟨[.builtin "object.__class__", .ref x, tp], []⟩) R s := by
  obtain ⟨h0, g0, d0, t0, os0⟩ := s
  have l0 := x_type (M := model prog w) I
  have l1 := looks_mroIn (M := model prog w) X hm
  refine codeAny_call_builtin KF.slot_gs.plain KF.entry_gs (KF.slot_gs.check _ _ _ _ _ _ _ _ KF.type_class (KF.args_gs _ _ _) ?_)
  unfold Builtin.«getset_descriptor.__get__» descrGet
  rw [dga_obj]
  refine wpAny_bind (wpAny_pure ?_)
  unfold descrGetter descrCheckInstance descrNameAndClass isInstance
  simp only [KF.owner_class]
  repeat lk
  refine ⟨Code.quiet_builtin _ (by decide +kernel), codeAny_builtin KF.entry_class ?_⟩
  unfold Builtin.«object.__class__» shownTypeOf
  repeat lk
  exact h
theorem bx_bind (v : Value) : bindSpecial (.builtin "BaseException.__getattribute__") v = pure (.builtin "BaseException.__getattribute__", [v]) := by kernel_rfl
theorem x_entry {tk : Tok} {R : Result → Shared → Prop} (X : K.In s.heap) (I : XAt x C s.heap) (c : XCls K C) (h : R (.ok (.ret (.ref C))) s) :
    codeAny (model prog w) A (.call (.builtin "BaseException.__getattribute__") ⟨[.ref x, .str "__class__" tk], []⟩) R s := by
  obtain ⟨h0, g0, d0, t0, os0⟩ := s
  have l0 := x_type (M := model prog w) I
  have l1 := x_find (M := model prog w) (x := x) X c
  have l2 := looks_mroIn (M := model prog w) X c.bs
  have hk : builtinKind "BaseException.__getattribute__" = some .slot := by decide +kernel
  have hsp : splitId "BaseException.__getattribute__" = some ("BaseException", "__getattribute__") := by decide +kernel
  have ha := F.args_bexc_ga (.ref x) (.str "__class__" tk)
  refine codeAny_call_builtin (by decide +kernel) F.entry_bexc_ga ?_
  simp only [checkBuiltinCall, hk, hsp]
  unfold isInstance
  repeat (first | refine wpAny_run (h := none) (x_get (A := A.in1) (s := ⟨h0, g0, d0, t0, os0⟩) X I c.hm ?_) | lk)
  exact h
theorem x_class {Q : Option Value → Shared → Prop} (X : K.In s.heap) (I : XAt x C s.heap) (c : XCls K C) (h : Q (some (.ref C)) { s with toks := s.toks + 1 }) : wpAny (model prog w) A (getAttr? (.ref x) "__class__") Q E s := by
  obtain ⟨h0, g0, d0, t0, os0⟩ := s
  have l0 := x_type (M := model prog w) I
  have l1 := looks_findIn (M := model prog w) X c.ga
  have l2 := looks_findIn (M := model prog w) X c.gh
  unfold getAttr? getAttrBy? getAttrBy
  refine wpAny_bind (wpAny_mkText (wpAny_bind (wpAny_attempt (wpAny_holding (wpAny_bind (l0.at (wpAny_bind (l1.at ?_))))))))
  show wpAny _ _ (getAttrByItsOwn _ _ _ _ _ _) _ _ _
  unfold getAttrByItsOwn hookBefore
  refine wpAny_bind (l2.at ?_)
  show wpAny _ _ (((holding [] (boundAndCalled _ _ _)).attempt) >>= _) _ _ _
  unfold boundAndCalled
  rw [bx_bind]
  refine wpAny_bind (wpAny_attempt (wpAny_holding (wpAny_bind (wpAny_pure ?_))))
  exact wpAny_call (x_entry (s := ⟨h0, g0, d0, t0 + 1, os0⟩) X I c (wpAny_pure (wpAny_pure h)))
theorem kitx_exc (c : XCls K C) : KitX K (.ref x) (.ref C) (XAt x C) where
  ty := fun _ _ _ I => x_type I
  it := fun _ _ X _ => by
    obtain ⟨cd, hc⟩ := Option.isSome_iff_exists.mp c.cl
    unfold clsIn at hc
    split at hc
    · rename_i ho
      intro A' Q' E' s' k q
      unfold isType loadHead
      exact wpAny_bind (wpAny_loadPart (k _ _ (X _ _ ho)) (wpAny_pure q))
    · cases hc
  ne := fun h tp dd its n sl X htp => by
    obtain ⟨cd, hc⟩ := Option.isSome_iff_exists.mp c.cl
    refine Bool.eq_false_iff.mpr fun q => ?_
    obtain rfl : C = tp := Value.ref.inj (beq_iff_eq.mp q)
    unfold clsIn at hc
    split at hc
    · rename_i ho
      cases (X _ _ ho).symm.trans htp
    · cases hc
  ca := fun X I k => x_class X I c k
theorem x_matches {S : Addr} {Q : Bool → Shared → Prop} (X : K.In s.heap) (I : XAt x C s.heap) (ht : typeIn K (.ref S) = some (.type "type")) (hcS : (clsIn K S).isSome = true) (hb : mroIn K S (.type "BaseException") = some true) (hs : mroIn K C (.ref S) = some true) (q : Q true s) :
    wpAny (model prog w) A (excMatches (.ref x) (.ref S)) Q E s := by
  obtain ⟨h0, g0, d0, t0, os0⟩ := s
  have l0 := x_type (M := model prog w) I
  have l1 := looks_typeIn (M := model prog w) X ht
  have l2 := looks_mroIn (M := model prog w) X hb
  have l3 := looks_mroIn (M := model prog w) X hs
  have l4 : Looks (model prog w) h0 (isType (.ref S)) true := by
    obtain ⟨cd, hc⟩ := Option.isSome_iff_exists.mp hcS
    unfold clsIn at hc
    split at hc
    · rename_i ho
      intro A' Q' E' s' k q
      unfold isType loadHead
      exact wpAny_bind (wpAny_loadPart (k _ _ (X _ _ ho)) (wpAny_pure q))
    · cases hc
  have l5 : Looks (model prog w) h0 (isSubtype (.type "type") (.type "tuple")) false := Looks.of_pure (by rw [isSubtype_type]; kernel_rfl)
  unfold excMatches isInstance isExcClass
  repeat lk
  exact q
end
end L3

/-! raise C(..), calls that may raise, try with one call, isinstance of what was caught. -/
namespace L3
open PySem PySem.Spec PyProof.Rows L2
abbrev bmV : List Value := [.type "ValueError", .type "Exception", .type "BaseException", .type "object"]
theorem own_obj {K : PySem.W.Frag} {h : Heap} {C : Addr} {bB : List Value} {nid : String} (X : K.In h) (e : PySem.W.excIn K C bB nid = true) :
    ∃ bm N nm q bs hd sn sub ab col dd k0 k1 k2 k3 k5 mN, h.get? C = some (excClassObj nm q C N bs bm hd sn sub ab col dd k0 k1 k2 k3 k5 nid) ∧ h.Ns N mN ∧ mN "__init__" = none ∧ OwnTail h bB bm := by
  unfold PySem.W.excIn at e
  split at e
  · rename_i dd cd slots hl
    split at e
    · rename_i C1 bm k0 k1 k2 k3 n1 k5 hmro hslots
      simp only [Bool.and_eq_true, beq_iff_eq, Bool.not_eq_true'] at e
      obtain ⟨⟨⟨⟨⟨e1, e2⟩, e3⟩, e4⟩, e5⟩, e6⟩ := e
      subst e1 e2
      obtain ⟨a1, a2, a3, a4, a5, a6, a7, a8, a9, a10, a11⟩ := cd
      dsimp only at hmro e3 e5 e6
      subst hmro e3
      have es : slots = #[k0, k1, k2, k3, some (.builtin n1), k5] := by
        obtain ⟨l⟩ := slots
        simp only at hslots
        rw [hslots]
      subst es
      exact ⟨bm, a4, a1, a5, a2, a6, a7, a8, a9, a10, dd, k0, k1, k2, k3, k5, _, X _ _ hl, .of_isNs (PySem.W.isNs_of_in X e5), PySem.W.nsMap_none_of_in X e5 e6, PySem.W.tail_of_in X e4⟩
    · cases e
  · cases e
structure OwnX (K : PySem.W.Frag) (mg : Str → Option Value) (x : Str) (C : Addr) : Prop where
  nm : mg x = some (.ref C)
  ex : PySem.W.excIn K C bmV "ValueError.__new__" = true
section
variable {X : Cx}
def Raises (X : Cx) (E : XK) : Prop := ∀ (pins : List (Addr × Obj)) (σ : L2.St) (H : Hp) (s : Shared) (h2 : Heap) (x C : Addr) (vs : List Value), Inv X pins σ H s → Heap.MadeExcOf s.heap h2 x (.ref C) vs → E (.ref C) none H → X.xe (.ref x) { s with heap := h2 }
def tRaise (C : Addr) (E : XK) (te : TE) : TS := fun _ σ H => te σ H fun v H1 => [v].length = 1 ∧ E (.ref C) none H1
theorem ps_raise {x : Str} {C : Addr} {E : XK} {e : Expr} {te : TE} {np cpos pos : Pos} (O : OwnX X.K X.mg x C) (hc : X.calm = true) (hg : Gl X x) (hR : Raises X E) (he : PE X e te) (hd : (x == ("__debug__" : Str)) = false := by decide)
    (hs : starEach [e] X.env = [(false, eval e X.env)] := by rfl) (hpl : (backTo cpos (starEach [e] X.env)).any (·.1) = false := by rfl) : PS X (.Raise (some (.Call (.Name x np) [e] [] cpos)) none pos) (tRaise C E te) := by
  intro pins s σ H D I h
  obtain ⟨bm, N, nm, q, bs, hdct, sn, sub, ab, col, dd, k0, k1, k2, k3, k5, mN, hC, hN, hni, T⟩ := own_obj (h := X.base) I.ok.mod.kin O.ex
  have FV := PySem.F.excBase_ValueError
  refine wpAny_Raise_call_subU (C := C) (nm := nm) (q := q) (N := N) (bs := bs) (bm := bm) (hdct := hdct) (sn := sn) (sub := sub) (ab := ab) (col := col) (dd := dd) (k0 := k0) (k1 := k1) (k2 := k2) (k3 := k3) (k5 := k5) (mN := mN)
    FV (by decide) FV (T.hasType FV.hasBase) (I.ok.hd hc) hpl hni (ld_glob I hg O.nm ⟨rfl, ?_⟩ hd)
  have pa : PA X [e] (tCons te tNil) := pa_cons he pa_nil hs
  rw [hs]
  refine Calls.evalArgs_plain ?_
  have run := pa cpos pins s σ H (fun ws H1 => ws.length = 1 ∧ E (.ref C) none H1) I h
  rw [hs] at run
  refine wpAny_mono run (fun vs s2 ⟨ws, H2, I2, rv, hw, hE⟩ => ?_) fun _ _ y => y
  have hl : vs.length ≤ sizeLine := by
    rw [← rv.length, hw]; decide
  exact ⟨rfl, hl, I2.bk _ _ hC, hN.keeps I2.bk, T.keeps I2.bk, fun h' x0 hm => hR pins σ H2 s2 h' x0 C vs I2 hm hE⟩
/-! ### an own def that may raise -/
def Cal1 (P : Program) (w : World) (K : PySem.W.Frag) (mg : Str → Option Value) (base : Heap) (x : Str) (ps : List Str) (k : Nat) (sp : Sp) : Prop :=
  ∃ f fd, FnOk P w K mg base (CX1 P w) k f fd ps sp ∧ Binds K fd ps [] ∧ PySem.W.keepIn K (.ref f) = true ∧ mg x = some (.ref f)
def tFn1 (sp : Sp) (E : XK) (t : TA) : TE := fun σ H Q => t σ H fun vs H1 => sp vs H1 Q E
theorem pe_fn1 {x : Str} {ps : List Str} {k k' : Nat} {sp : Sp} {E : XK} {p pos : Pos} {e : Expr} {es : List Expr} {t : TA} (C : Cal1 X.prog X.w X.K X.mg X.base x ps k sp) (hr : Room k' X.A) (hk : k ≤ k') (hg : Gl X x) (hx : Passes (CX1 X.prog X.w) X E)
    (ha : PA X (e :: es) t) (hdb : (x == ("__debug__" : Str)) = false := by decide) (he : starEach (e :: es) X.env = (false, eval e X.env) :: starEach es X.env := by rfl) (hpl : (backTo pos (starEach es X.env)).any (·.1) = false := by rfl) :
    PE X (.Call (.Name x p) (e :: es) [] pos) (tFn1 sp E t) := by
  obtain ⟨f, fd, F, b, kp, hm⟩ := C
  intro pins s σ H Q I h
  refine wpAny_Call_Name_kw (ld_glob I hg hm ?_ hdb)
  refine PySem.W.callWith_K (h₀ := X.base) I.ok.mod.kin kp (thn (ha pos pins s σ H _ I h) fun us s1 ⟨vs, H1, I1, r, q⟩ => ⟨I1.kIn, ?_⟩) he hpl
  exact run_fn (dvs := []) F (hr.mono hk) b .nil hx I1 r (by rw [List.append_nil]; exact q)
theorem pass_no : Passes (CX1 X.prog X.w) X E0 := fun _ _ _ _ _ _ _ ⟨_, _, _, _, _, _, h⟩ => h.elim
end
section
variable {P : Program} {w : World} {K : PySem.W.Frag} {mg : Str → Option Value} {base : Heap} {N : List Str} {qual : Str} {scope : Scope} {f : Addr} {cd : Value} {A : Around} {outer : List Env} {s : Shared} {H : Hp} {E : XK}
theorem pass_on : Passes (CX1 P w) (cxOf (CX1 P w) P w K mg base N qual scope f cd A outer s H E) E := by
  intro pins σ H1 s1 e s2 I h
  obtain ⟨x, C, H2, B, rfl, F, hE⟩ := h
  show wpAny (model P w) _ (leaving _ (.ref x)) _ _ s2
  exact pass_fly I rfl rfl rfl F fun h' F' => ⟨x, C, H2, B, rfl, F', hE⟩
theorem raise_on : Raises (cxOf (CX1 P w) P w K mg base N qual scope f cd A outer s H E) E := by
  intro pins σ H1 s1 h2 x C vs I hm hE
  show wpAny (model P w) _ (leaving _ (.ref x)) _ _ _
  exact raise_fly I rfl rfl rfl hm fun h' B F' => ⟨x, C, H1, B, rfl, F', hE⟩
theorem Fun.ok1 {x : Str} {st : Stmt} {fd : FuncData} {ps : List Str} {k : Nat} {sp : Sp} (F : Fun K x qual st f fd) (S : FnScope N ps (defScope st)) (len : ∀ vs H Q E, sp vs H Q E → vs.length = ps.length)
    (hbody : ∀ (cdv : Value) (A : Around) (outer : List Env) (s : Shared) (H : Hp) (vs : List V) (Q : VK) (E : XK), Room k (A.deeper (envOfC qual (defScope st) s.heap.objs.size f cdv)) → sp vs H Q E →
      ∃ t, PSs (cxOf (CX1 P w) P w K mg base N qual (defScope st) f cdv A outer s H E) (defBody st) t ∧ t { nx := fun _ H' => Q .non H', rt := Q } (start N vs) H) : FnOk P w K mg base (CX1 P w) (k + 1) f fd ps sp := by
  obtain ⟨oc, od, kV, doc, pm, an, cdv, ct, osl, rfl, lk, hcd⟩ := F.ex
  exact fn_of lk hcd S len fun A outer s H vs Q E hr hsp => hbody cdv A outer s H vs Q E hr hsp
theorem own_on : PassesOwn (model P w) (cxOf (CX1 P w) P w K mg base N qual scope f cd A outer s H E).A (cxOf (CX1 P w) P w K mg base N qual scope f cd A outer s H E).env (cxOf (CX1 P w) P w K mg base N qual scope f cd A outer s H E).xe := PassesOwn.leaving
end
/-! ### what was caught -/
def excIs (x C : Addr) : Heap → Prop := XAt x C
abbrev Exc (x C : Addr) : HO := .ext (excIs x C)
theorem exc_ok {P : Program} {w : World} {H : Hp} {h : Heap} {x C : Addr} (e : XAt x C h) : ObjOk P w H h x (Exc x C) :=
  ⟨e, let ⟨o, z, _⟩ := e; ⟨o, z⟩, fun h1 h2 ⟨o, z, c⟩ k => ⟨o, k o z, c⟩⟩
section
variable {X : Cx}
def clsV : V → Option Value
  | .ref a => some (.ref a)
  | .ty T => some (.type T)
  | _ => none
theorem call_isinstX : CallR X (.builtin "isinstance") (fun xs H Q => ∃ x C y u b, xs = [.ref x, y] ∧ H x = some (Exc x C) ∧ XCls X.K C ∧ clsV y = some u ∧ PySem.W.kitOne X.K (.ref C) u = some b ∧ Q (.bl b) H) := by
  intro pins s σ H xs us Q I r h
  obtain ⟨x, C, y, u, b, rfl, hx, c, hu, e, q⟩ := h
  obtain ⟨v, w', rfl, rx, ry⟩ := vals2 r
  cases rx
  have ew : w' = u := by
    cases y <;> simp only [clsV] at hu <;> first | cases hu | skip
    · cases ry; rfl
    · cases ry; rfl
  subst ew
  have px : XAt x C s.heap := (show ObjOk X.prog X.w H s.heap x (Exc x C) from I.hok x _ hx).1
  exact PySem.W.kia_one (kitx_exc c) I.kIn px e (fun z => nomatch z) fun tk => ⟨.bl b, H, I.tok _, rfl, q⟩
theorem pe_globC {x : Str} {C : Addr} {pos : Pos} (hg : Gl X x) (hm : X.mg x = some (.ref C)) (hd : (x == ("__debug__" : Str)) = false := by decide) : PE X (.Name x pos) (tC (.ref C)) := pe_glob hg hm rfl hd
end
end L3

/-! try: y = f(..) / except S as n: z = n -/
namespace L3
open PySem PySem.Spec PyProof.Rows L2
abbrev sui (X : Cx) (v : Value) : Cx := { X with A := X.A.mark (some v), calm := false, xe := fun _ _ => False }
section
variable {X : Cx} {pins : List (Addr × Obj)} {σ : L2.St} {H : Hp} {s : Shared}
theorem Inv.suite (I : Inv X pins σ H s) (v : Value) : Inv (sui X v) pins σ H s :=
  ⟨⟨I.ok.mod, I.ok.kind, I.ok.glob, I.ok.blt, I.ok.above, I.ok.inj, I.ok.has, I.ok.cab, (fun h => nomatch h), I.ok.frames, I.ok.stk, I.ok.exf, I.ok.bs, I.ok.bsz, I.ok.noex, I.ok.exfs, I.ok.funs, I.ok.frf⟩, I.os, I.bare, I.base, I.loc, I.cell, I.free, I.freeC, I.pin, I.hok, I.len⟩
theorem Inv.unsuite {v : Value} (ok : X.Ok) (I : Inv (sui X v) pins σ H s) : Inv X pins σ H s :=
  ⟨ok, I.os, I.bare, I.base, I.loc, I.cell, I.free, I.freeC, I.pin, I.hok, I.len⟩
theorem Inv.trackX {x C : Addr} (I : Inv X pins σ H s) (hx : H x = none) (c : XAt x C s.heap) (h0 : X.s₀.heap.get? x = none) (h1 : x ≠ X.env.locals) (h2 : ∀ y a, X.env.cells.lookup y = some a → a ≠ x) (h3 : ∀ p ∈ X.pn ++ pins, p.1 ≠ x) : Inv X pins σ (upd H x (Exc x C)) s := by
  have old : ∀ b u, H b = some u → upd H x (Exc x C) b = some u := fun b u e => by rw [upd_ne (ne_of_none e hx)]; exact e
  refine ⟨I.ok, I.os, I.bare, ⟨I.base.keep, I.base.slot, fun b o e n hb => ?_, I.base.there, fun b xs e => old b _ (I.base.tups b xs e), fun b o u e => old b _ (I.base.frzs b o u e), fun b ps e => ?_⟩, I.loc, I.cell, by rw [upd_ne h1.symm]; exact I.free, fun y a e => by rw [upd_ne (h2 y a e)]; exact I.freeC y a e, fun p hp => ?_, fun b u e => ?_, I.len⟩
  · rw [upd_ne (fun z => by subst z; rw [h0] at e; cases e)]
    exact I.base.free b o e n hb
  · obtain ⟨m, e1⟩ := I.base.tbls b ps e
    exact ⟨m, old b _ e1⟩
  · obtain ⟨a1, a2, a3⟩ := I.pin p hp
    exact ⟨a1, by rw [upd_ne (h3 p hp)]; exact a2, a3⟩
  · by_cases hb : b = x
    · subst hb
      rw [upd_same] at e; cases e
      exact exc_ok c
    · rw [upd_ne hb] at e
      exact (I.hok b u e).stay (fun _ _ _ q => q) (fun a q => old a _ q) fun a xs q => old a _ q
theorem goes_ok {M : Model} {A : Around} {E : Value → Shared → Prop} {i : Nat} {n : Str} {pos : Pos} {Q : Unit → Shared → Prop} (I : Inv X pins σ H s) (hN : X.N.Nodup) (hi : X.N[i]? = some n) (hk : X.env.scope.names.lookup n = some .local)
    (h : ∀ s', Inv X pins (σ.set i none) H s' → Q () s') : wpAny M A (do bindName X.env n .none; unbindBehindTheSuite X.env n pos) Q E s := by
  obtain ⟨m, hn, hl⟩ := id I.loc
  have hcls : (X.env.scope.kind == .class || (X.env.scope.kind == .module && X.env.locals != X.env.globals)) = false := by rw [I.ok.kind]; rfl
  have hiσ : i < σ.length := by rw [I.len]; exact (List.getElem?_eq_some_iff.mp hi).1
  have cne := I.cne
  obtain ⟨oL, _, _, hoL, _⟩ := id hn
  refine wpAny_nameGoes_keeps hk hn hcls fun h' v hn' hs => h _ ?_
  have bel : ∀ {b : Addr} {o : Obj}, X.s₀.heap.get? b = some o → b ≠ X.env.locals := fun e => Nat.ne_of_lt (Nat.lt_of_lt_of_le (Heap.lt_size e) I.ok.above)
  refine ⟨I.ok, I.os, I.bare, ⟨fun b o e n hb hx => (hs.2 b (bel e)).trans (I.base.keep b o e n hb hx), fun b o e n hb hx => ?_, I.base.free, fun b o e hx => ?_, I.base.tups, I.base.frzs, I.base.tbls⟩, ⟨_, hn', fun j y v' e1 e2 e3 => ?_⟩, fun y c e => ?_, I.free, I.freeC, fun p hp => ?_, fun b ob e => ?_, by simpa using I.len⟩
  · obtain ⟨sl, e1⟩ := I.base.slot b o e n hb hx
    exact ⟨sl, (hs.2 b (bel e)).trans e1⟩
  · obtain ⟨o', e1⟩ := I.base.there b o e hx
    exact ⟨o', (hs.2 b (bel e)).trans e1⟩
  · by_cases hj : j = i
    · subst hj
      rw [List.getElem?_set_self hiσ] at e2
      cases e2
    · rw [List.getElem?_set_ne (Ne.symm hj)] at e2
      obtain ⟨u', r', q⟩ := hl j y v' e1 e2 e3
      refine ⟨u', r', ?_⟩
      rcases q with ⟨k, e⟩ | ⟨k, c, e, z⟩
      · refine .inl ⟨k, ?_⟩
        have : y ≠ n := fun e => hj (nodup_ix hN e1 (e ▸ hi))
        simp [this, e]
      · exact .inr ⟨k, c, e, z.sameBut hs (cne y c e)⟩
  · obtain ⟨w', z⟩ := I.cell y c e
    exact ⟨w', z.sameBut hs (cne y c e)⟩
  · obtain ⟨e, n, ne, nf, d⟩ := I.pin p hp
    exact ⟨(hs.2 p.1 ne).trans e, n, ne, nf, d⟩
  · refine (I.hok b ob e).stay (fun c w' hc q => (hs.2 c ?_).trans q) (fun _ q => q) fun _ _ q => q
    rintro rfl
    rcases hc with rfl | hc
    · rw [I.free] at e; cases e
    · rw [I.free] at hc; cases hc
structure Clause (K : PySem.W.Frag) (mg : Str → Option Value) (x : Str) (S : Addr) : Prop where
  nm : mg x = some (.ref S)
  ty : PySem.W.typeIn K (.ref S) = some (.type "type")
  cl : (PySem.W.clsIn K S).isSome = true
  bs : PySem.W.mroIn K S (.type "BaseException") = some true
def tTry (K : PySem.W.Frag) (S : Addr) (iy iz ie : Nat) (sp : Sp) (t : TA) : TS := fun D σ H => t σ H fun vs H1 => sp vs H1 (fun v H2 => D.nx (σ.set iy (some v)) H2)
  fun c _ H2 => ∃ C, c = .ref C ∧ PySem.W.mroIn K C (.ref S) = some true ∧ ∀ x, H2 x = none → D.nx (((σ.set ie (some (.ref x))).set iz (some (.ref x))).set ie none) (upd H2 x (Exc x C))
theorem ps_try1 {x y z n S : Str} {SA : Addr} {iy iz ie : Nat} {ps : List Str} {k k' : Nat} {sp : Sp} {fp yp cp ap spp np zp zap hp pos : Pos} {e : Expr} {es : List Expr} {t : TA} (hxe : X.xe = fun _ _ => False) (C : Cal1 X.prog X.w X.K X.mg X.base x ps k sp) (hr : Room k' X.A) (hk : k ≤ k') (hg : Gl X x)
    (ha : PA X (e :: es) t) (cl : Clause X.K X.mg S SA) (hgS : Gl X S) (hst : X.stack = X.env :: X.outer) (hfm : X.env.frame = some X.env.locals) (hex : X.ex = []) (hN : X.N.Nodup) (hy : X.N[iy]? = some y) (hz : X.N[iz]? = some z) (hn : X.N[ie]? = some n)
    (ly : Loc X.env.scope y) (lz : Loc X.env.scope z) (ln : X.env.scope.names.lookup n = some .local) (hie : ie ≠ iz)
    (fy : X.fn y = true ∨ X.env.scope.names.lookup y = some .local := by first | exact .inl rfl | exact .inr rfl | assumption) (fz : X.fn z = true ∨ X.env.scope.names.lookup z = some .local := by first | exact .inl rfl | exact .inr rfl | assumption)
    (hdb : (x == ("__debug__" : Str)) = false := by decide) (hdS : (S == ("__debug__" : Str)) = false := by decide) (hdn : (n == ("__debug__" : Str)) = false := by decide) (hcn : (n == ("__classdict__" : Str)) = false := by decide)
    (he : starEach (e :: es) X.env = (false, eval e X.env) :: starEach es X.env := by rfl) (hpl : (backTo cp (starEach es X.env)).any (·.1) = false := by rfl)
    (hsw : swapsWith (.Call (.Name x fp) (e :: es) [] cp) (some (.Name y yp)) ap.line X.env = pure false := by rfl) (hsz : swapsWith (.Name n np) (some (.Name z zp)) zap.line X.env = pure false := by rfl) :
    PS X (.Try [.Assign [.Name y yp] (.Call (.Name x fp) (e :: es) [] cp) ap] [.ExceptHandler (some (.Name S spp)) (some n) [.Assign [.Name z zp] (.Name n np) zap] hp] [] [] pos) (tTry X.K SA iy iz ie sp t) := by
  intro pins s σ H D I h
  obtain ⟨f, fd, F, b, kp, hm⟩ := C
  refine wpAny_Try_except (wpAny_execs_cons (wpAny_Assign_Name ?_ hsw))
  refine wpAny_Call_Name_kw (ld_glob I hg hm ?_ hdb)
  have run := ha cp pins s σ H _ I h
  rw [hxe] at run
  refine PySem.W.callWith_K (h₀ := X.base) I.ok.mod.kin kp (toE (thn run fun us s1 ⟨vs, H1, I1, r, q⟩ => ⟨I1.kIn, ?_⟩)) he hpl
  have hl : us.length = ps.length := by rw [← r.length]; exact F.len _ _ _ _ q
  refine wpAny_call (codeAny_mono (F.run X.A X.stack s1 H1 ⟨us, []⟩ (us ++ []) vs _ _ (hr.mono hk) I1.env0 (b s1 us I1.kIn (by rw [List.append_nil]; exact hl)) (by rw [List.append_nil]; exact r) q) fun r' s2 hq => ?_)
  cases r' with
  | ok fl =>
    cases fl with
    | ret u =>
      obtain ⟨v, H2, I2, rv, hv⟩ := I1.after hq
      exact store_ok I2 hN hy ly rv (fun s3 I3 => wpAny_execs_nil (wpAny_execs_nil ⟨_, H2, I3, hv⟩)) fy
    | next => exact False.elim hq
    | brk => exact False.elim hq
    | cont => exact False.elim hq
  | error ev =>
    obtain ⟨xa, C, H2, B, rfl, Fl, C', hC, hsub, hE⟩ := hq
    cases hC
    obtain ⟨ta, fl⟩ := Fl.fl
    have hfr : X.A.frames = some (X.env :: X.outer) := by rw [← hst]; exact I.ok.frames
    have fl' := fl
    rw [hst] at fl'
    have hxl : xa ≠ X.env.locals := fun z => by
      obtain ⟨m, ⟨o, es', ep, e', _⟩, _⟩ := I1.loc
      rw [← z, Fl.new] at e'; cases e'
    have hxc : ∀ y a, X.env.cells.lookup y = some a → a ≠ xa := fun y a e' z => by
      obtain ⟨v, o, ho, _⟩ := I1.cell y a e'
      rw [z, Fl.new] at ho; cases ho
    have hxp : ∀ p ∈ X.pn ++ pins, p.1 ≠ xa := fun p hp z => by
      have := (I1.pin p hp).1
      rw [z, Fl.new] at this; cases this
    have inv_at : ∀ (h' : Heap), B.StaysIn h' → s2.heap.UpToSlots h' → Inv X pins σ H2 { s2 with heap := h' } := fun h' k1 k2 => by
      obtain ⟨un, hok⟩ := Fl.turn k1 k2
      exact I1.call' (s' := { s2 with heap := h' }) Fl.os un hok Fl.bare (fun b z => absurd z (by simp))
    refine wpAny_looks_onW hfr hfm fl' fun h4 held4 up4 => ?_
    refine wpAny_landsW held4 fun h5 fl5 up5 => ?_
    have up45 := up4.trans up5
    have I5 := inv_at h5 fl5.1 up45
    have c5 : XAt xa C h5 := by obtain ⟨o, e1, e2⟩ := fl5.there; exact ⟨o, e1, e2⟩
    refine wpAny_handleBy_cons (codeAny_handlers_test (ld_glob (X := sui X (.ref xa)) (Inv.suite I5 _) hgS cl.nm ?_ hdS)) (by intro q; cases q)
    refine x_matches I5.kIn c5 cl.ty cl.cl cl.bs hsub ?_
    refine codeAny_handlers_suite_as (lands_againW fl5 fun h6 fl6 up6 => ?_)
    have I6 := inv_at h6 fl6.1 (up45.trans up6)
    have c6 : XAt xa C h6 := by obtain ⟨o, e1, e2⟩ := fl6.there; exact ⟨o, e1, e2⟩
    have x0 : X.s₀.heap.get? xa = none := by
      cases e' : X.s₀.heap.get? xa with
      | none => rfl
      | some o =>
        obtain ⟨o', e1⟩ := I1.base.there xa o e' (by rw [hex]; simp)
        rw [Fl.new] at e1; cases e1
    have I7 := Inv.trackX I6 Fl.xf c6 x0 hxl hxc hxp
    refine store_ok (X := sui X (.ref xa)) (Inv.suite I7 _) hN hn (.inl ln) (v := .ref xa) rfl (fun s8 I8 => ?_) (.inr ln)
    have suite : PSs (sui X (.ref xa)) [.Assign [.Name z zp] (.Name n np) zap] (tAsg (tVar ie) (gName iz)) := pss_one (ps_set hN hz lz (pe_var hn (.inl ln) hdn hcn) hsz fz)
    have hiσ : ie < σ.length := by rw [I.len]; exact (List.getElem?_eq_some_iff.mp hn).1
    have go := suite pins s8 _ _ { nx := fun σ' H' => σ' = (σ.set ie (some (.ref xa))).set iz (some (.ref xa)) ∧ H' = upd H2 xa (Exc xa C), rt := fun _ _ => False } I8 ⟨_, List.getElem?_set_self hiσ, rfl, rfl⟩
    refine toE (wpAny_mono go (fun f s9 hf => ?_) fun _ _ z => z)
    cases f with
    | next =>
      obtain ⟨σ9, H9, I9, rfl, rfl⟩ := hf
      exact goes_ok (Inv.unsuite I.ok I9) hN hn ln fun s10 I10 => ⟨_, _, I10, hE xa Fl.xf⟩
    | ret u => obtain ⟨_, _, _, _, _, z⟩ := hf; exact z.elim
    | brk => obtain ⟨_, _, _, z⟩ := hf; exact z.elim
    | cont => obtain ⟨_, _, _, z⟩ := hf; exact z.elim
end
end L3

/-! Dicts: setdefault, get; keys that are numbers, texts, or tuples of these. -/
namespace L3
open PySem PySem.Spec PyProof.Rows L2
section
variable {prog : Program} {w : World} {κ : Type} [DecidableEq κ] {knd : HeapKind prog w κ} {A : Around} {E : Value → Shared → Prop} {s : Shared}
theorem sd_heap {d a : Addr} {xs : List (κ × Addr × Value)} {k : κ} {v : Value} {Q : Value → Shared → Prop} (hu : knd.room A) (hkey : knd.is s.heap k a) (hm : s.heap.DictOfH knd d xs) (hsz : xs.length ≤ sizeLine)
    (h1 : ∀ p, atKey xs k = some p → Q p.2 { s with toks := s.toks + knd.draws k })
    (h2 : atKey xs k = none → ∀ h', h'.DictOfH knd d (storedH xs k a v) → Heap.SameBut d s.heap h' → Q v { s with heap := h', toks := s.toks + knd.draws k }) :
    wpAny (model prog w) A (dictSetDefault d (.ref a) v) Q E s := by
  obtain ⟨o, es, ep, ho, hc, hd, he, his, hn⟩ := hm
  unfold dictSetDefault
  try with_reducible refine wpAny_holding ?_
  refine wpAny_bind (knd.pyHash hu hkey (wpAny_bind (wpAny_dictFind_heap (s := { s with toks := s.toks + knd.draws k }) hu hkey ho hd he his hn ?_ ?_)))
  · intro hno
    have hnot : k ∉ xs.map (·.1) := not_mem_keys_of_get hno
    have hsn := storedH_new (a := a) (v := v) (atKey_none_of_get hno)
    refine wpAny_bind (wpAny_rule (wpAny_bind (wpAny_updateDictKeys (hz := by have e := size_of_entries he; omega) (s := { s with toks := s.toks + knd.draws k }) ho hd (wpAny_pure
      (h2 (atKey_none_of_get hno) _ ⟨_, _, ep + 1, Heap.get?_update_self _ ho (Obj.isFreed_of_dict (Obj.data_mapDictKeys hd _)), hc.mapDictKeys _, Obj.data_mapDictKeys hd _, ?_, ?_, ?_⟩ (Heap.SameBut.update ..))))))
    · rw [hsn]; simp [he, entryOfKey]
    · rw [hsn]
      intro x hx
      rcases List.mem_append.mp hx with hx | hx
      · exact knd.keeps (his x hx) ho hd (Heap.SameBut.update ..)
      · cases List.mem_singleton.mp hx
        exact knd.keeps hkey ho hd (Heap.SameBut.update ..)
    · rw [hsn, List.map_append, List.nodup_append]
      refine ⟨hn, by simp, fun x hx y hy => ?_⟩
      cases List.mem_singleton.mp hy
      exact fun e => hnot ((show x = k from e) ▸ hx)
  · intro j p hj
    refine wpAny_bind (wpAny_dictEntries (s := { s with toks := s.toks + knd.draws k }) ho hd ?_)
    rw [entry_at he j, hj]
    exact wpAny_bind (wpAny_rule (wpAny_pure (h1 _ (atKey_of_get hn hj))))
theorem sd_meets {d a : Addr} (hd : (d == sysModules) = false) (dflt : Value) :
    MeetsIn prog w (Builtin.«dict.setdefault» ⟨[.ref d, .ref a, dflt], []⟩) (fun A R s => knd.room A.in1 ∧ ∃ k xs, knd.is s.heap k a ∧ s.heap.DictOfH knd d xs ∧ xs.length ≤ sizeLine ∧
      (∀ p, atKey xs k = some p → R (.ok (.ret p.2)) { s with toks := s.toks + knd.draws k }) ∧
      (atKey xs k = none → ∀ h', h'.DictOfH knd d (storedH xs k a dflt) → Heap.SameBut d s.heap h' → R (.ok (.ret dflt)) { s with heap := h', toks := s.toks + knd.draws k })) :=
  .of_wp fun A R s ⟨hu, k, xs, hkey, hm, hz, h1, h2⟩ => by
    unfold Builtin.«dict.setdefault»
    refine wpAny_bind ?_
    unfold Builtin.Dict.keyAndDefault
    refine wpAny_bind (wpAny_notOrdered_dict hm.typeIs ?_)
    show wpAny _ _ (pure (d, Value.ref a, some dflt)) _ _ s
    refine wpAny_pure ?_
    show wpAny _ _ (if (d == sysModules) = true then _ else (dictSetDefault d (.ref a) dflt >>= _)) _ _ s
    rw [if_neg (by rw [hd]; exact Bool.false_ne_true)]
    exact wpAny_bind (sd_heap hu hkey hm hz (fun p hp => wpAny_pure ⟨_, rfl, h1 p hp⟩) fun hn h' hm' hs' => wpAny_pure ⟨_, rfl, h2 hn h' hm' hs'⟩)
end
section
variable {X : Cx}
def rSetD : V → List V → Hp → VK → Prop := fun x vs H Q => ∃ a y z, x = .ref a ∧ vs = [y, z] ∧
  ((∃ kvs k, H a = some (.dK kvs) ∧ y = kV k ∧ kvs.length < sizeLine ∧ (∀ r, valV kvs k = some r → Q r H) ∧ (valV kvs k = none → Q z (upd H a (.dK (putK kvs k z))))) ∨
   ∃ kvs k b, H a = some (.dT kvs) ∧ y = .ref b ∧ H b = some (.tup (k.map kV)) ∧ kvs.length < sizeLine ∧ (∀ r, valV kvs k = some r → Q r H) ∧ (valV kvs k = none → Q z (upd H a (.dT (putK kvs k z)))))
theorem args_sd (a b c : Value) : argsOk "dict.setdefault" ⟨[a, b, c], []⟩ := by unfold argsOk; kernel_rfl
theorem mt_setdefault {k0 : Nat} (hr : Room k0 X.A) : MtR X "dict.setdefault" rSetD := by
  intro pins s σ H x vs v us Q I rx rv h
  obtain ⟨a, y, z, rfl, rfl, h⟩ := h
  cases rx
  obtain ⟨u, r, rfl, ru, rr⟩ := vals2 rv
  rcases h with ⟨kvs, k, e, rfl, hl, h1, h2⟩ | ⟨kvs, k, b, e, rfl, eb, hl, h1, h2⟩
  · obtain ⟨hz, hd, ws, rel, dd⟩ := dk_of I.hok e
    refine call_meetsIn PySem.F.slot_dict_setdefault dd.typeIs PySem.F.entry_dict_setdefault (args_sd _ _ _) (kt_meets_setdefault (mixKind X.prog X.w) a (kV_is ru) hd r)
      ⟨ws, dd, by rw [← rel.length]; exact hz, fun v' hv' => ?_, fun hn h' dd' hs => ?_⟩
    · have q := rel.val k
      rw [hv'] at q
      cases hk : valV kvs k with
      | none => rw [hk] at q; exact q.elim
      | some r' => rw [hk] at q; exact ⟨r', H, I.tok _, q, h1 r' hk⟩
    · have q := rel.val k
      rw [hn] at q
      cases hk : valV kvs k with
      | some r' => rw [hk] at q; exact q.elim
      | none =>
        refine ⟨z, _, d_write I (by rw [e]; exact True.intro) hs (let ⟨q, _, _, hq, _⟩ := dd'; ⟨q, hq⟩) (dk_new ?_ hd (rel.put k rr) dd'), rr, h2 hk⟩
        have := length_putK kvs k z
        omega
  · cases (show u = Value.ref b from ru)
    obtain ⟨hz, hd, xs, rel, dd⟩ := dt_of I.hok e
    refine call_meetsIn PySem.F.slot_dict_setdefault dd.typeIs PySem.F.entry_dict_setdefault (args_sd _ _ _) (sd_meets (knd := tupleKind (mixKind X.prog X.w)) (d := a) (a := b) hd r)
      ⟨tupleKind_room_in1 (hu_of hr), k, xs, key_of I.hok eb, dd, by rw [← Paired.length rel]; exact hz, fun p hp => ?_, fun hn h' dd' hs => ?_⟩
    · have q := rel.val k
      rw [hp] at q
      cases hk : valV kvs k with
      | none => rw [hk] at q; exact q.elim
      | some r' => rw [hk] at q; exact ⟨r', H, I.tok _, q, h1 r' hk⟩
    · have q := rel.val k
      rw [hn] at q
      cases hk : valV kvs k with
      | some r' => rw [hk] at q; exact q.elim
      | none =>
        obtain ⟨q, es, ep, hq, g2, g3, g4, _, g5⟩ := dd'
        refine ⟨z, upd H a (.dT (putK kvs k z)), d_write (ob := .dT (putK kvs k z)) I (by rw [e]; exact True.intro) hs ⟨q, hq⟩ ⟨?_, hd, _, (rel.put k eb rr).keeps fun c ys ec => ?_, q, es, ep, hq, g2, g3, g4, g5⟩, rr, h2 hk⟩
        · have := length_putK kvs k z
          omega
        · rw [upd_ne (ne_of ec e (fun z => nomatch z))]
          exact ec
def rGet2 : V → List V → Hp → VK → Prop := fun x vs H Q => ∃ a y z o, x = .ref a ∧ vs = [y, z] ∧ DGet H a y o ∧ Q (o.getD z) H
theorem mt_get2 {k0 : Nat} (hr : Room k0 X.A) : MtR X "dict.get" rGet2 := by
  intro pins s σ H x vs v us Q I rx rv h
  obtain ⟨a, y, z, o, rfl, rfl, g, q⟩ := h
  cases rx
  obtain ⟨u, r, rfl, ru, rr⟩ := vals2 rv
  exact d_get2 (hu_of hr) I g ru rr fun w' s' I' rw' => ⟨_, H, I', rw', q⟩
end
end L3

/-! A loop over a text. -/
namespace L3
open PySem PySem.Spec PyProof.Rows L2
def Its (x : Str) : It := ⟨fun i _ => i < x.cps.size, fun i H v H' => H' = H ∧ ∃ c, x.cps[i]? = some c ∧ v = .str ⟨#[c]⟩, fun i _ => x.cps.size ≤ i⟩
theorem str_walks {prog : Program} {w : World} {A : Around} (hh : A.handled = none) (it : Addr) (x : Str) (t : Tok) {ty : String} (hty : ty = "str_ascii_iterator" ∨ ty = "str_iterator") :
    Walks prog w A it [it] [it] x.cps.size (SignAt x) (fun i h => h.IsStrIter it ty x t i) := by
  rcases hty with rfl | rfl
  · exact Walks.strAscii hh it x t
  · exact Walks.strWide hh it x t
theorem turn_str {P : Program} {w : World} {K : PySem.W.Frag} {tg : Expr} (it : Addr) (x : Str) (t : Tok) {ty : String} (hty : ty = "str_ascii_iterator" ∨ ty = "str_iterator") : Turn P w K tg (Its x) [it] it (fun i h => h.IsStrIter it ty x t i) where
  mem := by simp
  obj := fun i h st b hb => by
    have e : b = it := by simpa using hb
    subst e
    obtain ⟨o, e, c, d⟩ := st
    exact ⟨o, e, fun v z => by rw [d] at z; cases z⟩
  keep := fun i h h' st k => let ⟨o, ho, r⟩ := st; ⟨o, k it (by simp) o ho, r⟩
  item := by
    intro X hP hw hK hc i pins s σ H E I hf st hg
    subst hP hw hK
    obtain ⟨f0, f1, f2, f3, f4, f5⟩ := hf it (by simp)
    refine (str_walks (prog := X.prog) (w := X.w) (I.ok.hd hc) it x t hty).item i s _ _ hg st fun v h' tk hv st' kk => ?_
    obtain ⟨c, u, hcx, rfl⟩ := hv
    have I1 : Inv X pins σ H { s with heap := h', toks := tk } := I.turned (fun b o hb e => kk b o (by simpa using hb) e) f0 f1 f3 f4 f5
    obtain ⟨o, e, cc, d⟩ := id st'
    exact ⟨_, rfl, go_of (s := { s with heap := h', toks := tk }) e cc d (by rcases hty with rfl | rfl <;> decide) ⟨.str ⟨#[c]⟩, H, I1, ⟨u, rfl⟩, ⟨rfl, c, hcx, rfl⟩, st', fun b hb => (hf b hb).1⟩⟩
  done := by
    intro X hP hw hK hc i pins s σ H E I hf st hg
    subst hP hw hK
    obtain ⟨f0, f1, f2, f3, f4, f5⟩ := hf it (by simp)
    have hx : x.cps[i]? = none := Array.getElem?_eq_none hg
    rcases hty with rfl | rfl
    · exact wpAny_pyNext_ascii_end (I.ok.hd hc) st hx fun h' eb => ⟨rfl, I.turned (t' := s.toks) (fun b o hb e => eb b o hb e) f0 f1 f3 f4 f5⟩
    · exact wpAny_pyNext_wide_end (I.ok.hd hc) st hx fun h' eb => ⟨rfl, I.turned (t' := s.toks) (fun b o hb e => eb b o hb e) f0 f1 f3 f4 f5⟩
  self := fun _ _ _ _ _ st h => by
    rcases hty with rfl | rfl
    · exact wpAny_pyIter_striter_ascii st h
    · exact wpAny_pyIter_striter_wide st h
section
variable {X : Cx} {tg : Expr}
def iStr (tl : TE) : TI := fun σ H R => tl σ H fun x H1 => ∃ z, x = .str z ∧ R (Its z) H1
theorem pi_str {l : Expr} {tl : TE} (hl : PE X l tl) : PI X tg l (iStr tl) := by
  intro pins s σ H R I h
  refine thn (hl pins s σ H _ I h) fun v s1 ⟨x, H1, I1, r1, q1⟩ => ?_
  obtain ⟨z, e, q⟩ := q1
  subst e
  obtain ⟨t, rfl⟩ := r1
  have fp : ∀ b ∈ [s1.heap.objs.size], FpOk X pins H1 b := fun b hb => by
    have e : b = s1.heap.objs.size := by simpa using hb
    subst e
    exact I1.fpOk (Nat.le_refl _) (I1.hok.fresh (Nat.le_refl _))
  cases ha : z.cps.all (· < 128)
  · exact wpAny_pyIter_wide ha ⟨s1.heap.objs.size, [s1.heap.objs.size], _, _, H1, rfl, I1.kept (t' := s1.toks) fun b o e => Heap.get?_push_of_some _ e, turn_str _ z t (.inr rfl), ⟨_, Heap.get?_push_size _ rfl, rfl, rfl⟩, fp, q⟩
  · exact wpAny_pyIter_ascii ha ⟨s1.heap.objs.size, [s1.heap.objs.size], _, _, H1, rfl, I1.kept (t' := s1.toks) fun b o e => Heap.get?_push_of_some _ e, turn_str _ z t (.inl rfl), ⟨_, Heap.get?_push_size _ rfl, rfl, rfl⟩, fp, q⟩
end
end L3

/-! A dict of whatever keys, walked: list(d), sorted(d), for k in d. -/
namespace L3
open PySem PySem.Spec PyProof.Rows L2 PySem.W
def RawD (d : Addr) (es : Array DictEntry) (p : Nat) (h : Heap) : Prop := ∃ b, h.get? d = some b ∧ b.ExactDict ∧ b.data = .dict es p
section
variable {prog : Program} {w : World} {A : Around} {E : Value → Shared → Prop} {s : Shared} {d it : Addr} {es : Array DictEntry} {p i : Nat}
theorem RawD.ty (r : RawD d es p s.heap) : s.TypeIs (.ref d) "dict" := let ⟨b, e, x, _⟩ := r; ⟨b, e, x.1⟩
theorem RawD.at {h h' : Heap} (r : RawD d es p h) (k : ∀ o, h.get? d = some o → h'.get? d = some o) : RawD d es p h' := let ⟨b, e, x⟩ := r; ⟨b, k _ e, x⟩
theorem RawD.lt {h : Heap} (r : RawD d es p h) : d < h.objs.size := let ⟨_, e, _⟩ := r; Heap.lt_size e
theorem rd_iter {Q : Value → Shared → Prop} (lo : (d == sysModules) = false) (r : RawD d es p s.heap)
    (q : Q (.ref s.heap.objs.size) { s with heap := s.heap.push { cls := .type "dict_keyiterator", data := .fields #[.ref d, .int 0 0, .int es.size 0, .int p 0] } }) : wpAny (model prog w) A (pyIter (.ref d)) Q E s := by
  obtain ⟨b, eb, xb, db⟩ := id r
  refine wpAny_pyIter_slot r.ty PySem.F.slot_dict_iter (wpAny_call_entry PySem.F.slot_dict_iter r.ty PySem.F.entry_dict_iter ?_ (PySem.F.args_dict_iter_1 _))
  unfold Builtin.«dict.__iter__»
  refine wpAny_bind ?_
  unfold Builtin.Dict.dictSlotNone
  refine wpAny_bind (wpAny_notOrdered_dict r.ty ?_)
  show wpAny _ _ (pure (.ref d : Value)) _ _ s
  refine wpAny_pure ?_
  show wpAny _ _ (Builtin.Dict.showsAll d >>= fun _ => _) _ _ s
  unfold Builtin.Dict.showsAll
  rw [lo]
  refine wpAny_bind (wpAny_pure (wpAny_bind (wpAny_dictEntries eb db (wpAny_bind (wpAny_dictEpoch eb db ?_)))))
  exact wpAny_bind (wpAny_newObj_type (wpAny_pure ⟨_, rfl, _, _, ⟨_, Heap.get?_push_size _ rfl, rfl⟩, PySem.F.slot_dict_keyiterator_next.lookup, q⟩))
theorem rd_item {Q : Option Value → Shared → Prop} {e : DictEntry} (st : s.heap.IsKeyIter it d i es.size p) (r : RawD d es p s.heap) (hx : es[i]? = some e)
    (q : ∀ h', h'.IsKeyIter it d (i + 1) es.size p → Heap.SameBut it s.heap h' → Q (some e.key) { s with heap := h' }) : wpAny (model prog w) A (pyNext (.ref it)) Q E s := by
  obtain ⟨b, eb, cb, db⟩ := id st
  obtain ⟨c, ec, xc, dc⟩ := id r
  unfold pyNext
  refine wpAny_bind (wpAny_attempt (wpAny_callSpecial?_slot (name := Str.ofString "__next__") st.typeIs PySem.F.slot_dict_keyiterator_next (wpAny_call_entry PySem.F.slot_dict_keyiterator_next st.typeIs PySem.F.entry_dict_keyiterator_next ?_ (PySem.F.args_dict_keyiterator_next_1 _))))
  refine wpAny_bind (wpAny_pure (wpAny_bind (wpAny_bind ?_)))
  refine wpAny_bind (wpAny_typeNameOfWhole_keyiter st.typeIs (wpAny_pure (wpAny_bind (wpAny_fieldsOf eb db ?_))))
  have own : Builtin.Dict_items.ownsTuple "dict_keyiterator" = false := by decide
  simp only [own, Bool.false_eq_true, if_false]
  show wpAny _ _ (if (Value.ref d == Value.none) = true then _ else _) _ _ _
  rw [if_neg (by intro z; cases z)]
  refine wpAny_bind (wpAny_pure (wpAny_bind (wpAny_dictEntries ec dc ?_)))
  rw [if_neg (by simp)]
  refine wpAny_bind (wpAny_pure (wpAny_bind (wpAny_dictEpoch ec dc ?_)))
  rw [if_neg (by simp)]
  refine wpAny_pure ?_
  simp only [show ¬ ((i : Int) < 0) by omega, if_false, Int.toNat_natCast, hx]
  refine wpAny_bind (wpAny_bind (wpAny_typeNameOfWhole_keyiter st.typeIs (wpAny_pure ?_)))
  refine wpAny_bind (wpAny_isOneOf_keyiter st.typeIs ?_)
  show wpAny _ _ (setField (.ref it) 1 (rawInt (i + 1)) >>= _) _ _ _
  refine wpAny_bind (wpAny_setField eb db (by simp) ?_)
  have st' : (s.heap.update it (Obj.mapFields (·.setIfInBounds 1 (rawInt ((i : Int) + 1))))).IsKeyIter it d (i + 1) es.size p :=
    ⟨_, Heap.get?_update_self _ eb (Obj.isFreed_of_fields (Obj.data_mapFields db _)), (Obj.cls_mapFields ..).trans cb, by rw [Obj.data_mapFields db]; simp [rawInt]⟩
  refine wpAny_bind (wpAny_holding (wpAny_bind (wpAny_isOneOf_keyiter (s := { s with heap := _ }) st'.typeIs ?_)))
  show wpAny _ _ (pure e.key) _ _ _
  exact wpAny_pure (wpAny_pure ⟨_, rfl, wpAny_pure (q _ st' (Heap.SameBut.update ..))⟩)
theorem rd_end {Q : Option Value → Shared → Prop} (hh : A.handled = none) (st : s.heap.IsKeyIter it d i es.size p) (r : RawD d es p s.heap) (hx : es[i]? = none)
    (q : ∀ h', Heap.ExtBut it s.heap h' → Q none { s with heap := h' }) : wpAny (model prog w) A (pyNext (.ref it)) Q E s := by
  obtain ⟨b, eb, cb, db⟩ := id st
  obtain ⟨c, ec, xc, dc⟩ := id r
  unfold pyNext
  refine wpAny_bind (wpAny_attempt (wpAny_callSpecial?_slot (name := Str.ofString "__next__") st.typeIs PySem.F.slot_dict_keyiterator_next (wpAny_call_entry PySem.F.slot_dict_keyiterator_next st.typeIs PySem.F.entry_dict_keyiterator_next ?_ (PySem.F.args_dict_keyiterator_next_1 _))))
  refine wpAny_bind (wpAny_pure (wpAny_bind (wpAny_bind ?_)))
  refine wpAny_bind (wpAny_typeNameOfWhole_keyiter st.typeIs (wpAny_pure (wpAny_bind (wpAny_fieldsOf eb db ?_))))
  have own : Builtin.Dict_items.ownsTuple "dict_keyiterator" = false := by decide
  simp only [own, Bool.false_eq_true, if_false]
  show wpAny _ _ (if (Value.ref d == Value.none) = true then _ else _) _ _ _
  rw [if_neg (by intro z; cases z)]
  refine wpAny_bind (wpAny_pure (wpAny_bind (wpAny_dictEntries ec dc ?_)))
  rw [if_neg (by simp)]
  refine wpAny_bind (wpAny_pure (wpAny_bind (wpAny_dictEpoch ec dc ?_)))
  rw [if_neg (by simp)]
  refine wpAny_pure ?_
  simp only [show ¬ ((i : Int) < 0) by omega, if_false, Int.toNat_natCast, hx]
  refine wpAny_bind (wpAny_bind (wpAny_typeNameOfWhole_keyiter st.typeIs (wpAny_pure ?_)))
  show wpAny _ _ (setField (.ref it) 0 Value.none >>= _) _ _ _
  refine wpAny_bind (wpAny_setField eb db (by simp) ?_)
  show wpAny _ _ (newExc (.type "StopIteration") ([] : List Value) >>= _) _ _ _
  refine wpAny_bind ?_
  simp only [newExc, newTuple]
  refine wpAny_bind (wpAny_newObj_type (wpAny_bind (m := firstArgMember _ _) (wpAny_of_eq (a := .none) (by first | rfl | (simp only [firstArgMember]; rfl)) (wpAny_newObj_type ?_ (by size_fits)))) (by size_fits))
  simp only [raiseNew]
  refine wpAny_bind (wpAny_handled ?_)
  rw [show A.in1.handled = none from hh]
  refine wpAny_bind (wpAny_pure (wpAny_throw ?_))
  refine wpAny_bind (wpAny_isInstance (b := true) (T := "StopIteration") ⟨_, Heap.get?_push_size _ rfl, rfl⟩ isSubtype_stop ?_)
  exact wpAny_pure (q _ (((Heap.SameBut.update ..).extBut.push _).push _))
theorem rd_walks (hh : A.handled = none) (hne : d ≠ it) (es : Array DictEntry) (p : Nat) :
    Walks prog w A it [it, d] [it] es.size (fun i v => ∃ e, es[i]? = some e ∧ v = e.key) (fun i h => h.IsKeyIter it d i es.size p ∧ RawD d es p h) where
  sub := fun b hb => by simp at hb; simp [hb]
  frame := fun _ _ _ st k => ⟨st.1.at fun o e => k it (by simp) o e, st.2.at fun o e => k d (by simp) o e⟩
  item := fun i s Q E hi st q => by
    have hx : es[i]? = some es[i] := by simp [hi]
    exact rd_item st.1 st.2 hx fun h' st' sb => q _ h' s.toks ⟨_, hx, rfl⟩ ⟨st', st.2.at fun o e => sb.extBut d o hne e⟩ fun b o hb e => sb.extBut b o (fun z => hb (by simp [z])) e
  done := fun s Q E st q => rd_end hh st.1 st.2 (by simp) fun h' eb => q h' s.toks fun b o hb e => eb b o (fun z => hb (by simp [z])) e
  self := fun _ _ _ _ st q => wpAny_pyIter_keyiter st.1 q
theorem rd_src (lo : (d == sysModules) = false) : KdlSrc prog w "dict" d d es.size (fun i v => ∃ e, es[i]? = some e ∧ v = e.key) (RawD d es p) where
  type := fun _ r => r.ty
  there := fun _ r => ⟨r.lt, r.lt⟩
  keep := fun _ _ r k => r.at fun o e => k d (.inl rfl) o e
  notList := by decide
  notTuple := by decide
  hint := fun _ _ _ _ r q => kdl_hint_dict r.ty q
  iter := fun _ _ hh r => ⟨_, _, fun _ _ q => rd_iter lo r q, rd_walks hh (Nat.ne_of_lt r.lt) es p, ⟨⟨_, Heap.get?_push_size _ rfl, rfl, rfl⟩, r.at fun o e => Heap.get?_push_of_some _ e⟩⟩
end
end L3

/-! Dicts: len, list, sorted. -/
namespace L3
open PySem PySem.Spec PyProof.Rows L2 PySem.W
section
variable {prog : Program} {w : World} {A : Around} {E : Value → Shared → Prop} {s : Shared} {d : Addr} {es : Array DictEntry} {p : Nat}
theorem rd_len {Q : Value → Shared → Prop} (lo : (d == sysModules) = false) (r : RawD d es p s.heap) (z : es.size ≤ sizeLine) (q : ∀ t s', s'.heap = s.heap → s' = { s with toks := s'.toks } → Q (.int es.size t) s') : wpAny (model prog w) A (call (.builtin "len") [.ref d]) Q E s := by
  have zz : es.size ≤ 16777216 := by rw [sizeLine_eq] at z; exact z
  have mt : MeetsIn prog w (Builtin.«dict.__len__» ⟨[.ref d], []⟩) (fun _ R s => RawD d es p s.heap ∧ R (.ok (.ret (.int es.size s.toks))) { s with toks := s.toks + 1 }) := .of_wp fun A R s ⟨r, h⟩ => by
    obtain ⟨b, eb, xb, db⟩ := r
    show wpAny _ _ (dictSize d >>= fun _ => _) _ _ s
    unfold dictSize
    refine wpAny_bind (wpAny_bind (wpAny_dictEntries eb db (wpAny_pure ?_)))
    show wpAny _ _ (Builtin.Dict.pendingCount d >>= fun _ => _) _ _ s
    exact wpAny_bind (wpAny_pendingCount_other lo (wpAny_ret_mkInt h))
  refine Calls.call_function_entry kind_len plain_len entry_len (args_len1 _) ?_
  unfold Builtin.«len»
  refine wpAny_bind (m := oneArg "len" _) (wpAny_pure ?_)
  refine wpAny_bind (m := callSpecial? (.ref d) (Str.ofString "__len__")) (wpAny_callSpecial?_slot (name := Str.ofString "__len__") r.ty PySem.F.slot_dict_len
    (call_meetsIn PySem.F.slot_dict_len r.ty PySem.F.entry_dict_len (PySem.F.args_dict_len_1 _) mt ⟨r, ?_⟩))
  refine wpAny_bind (wpAny_holding (wpAny_pure (wpAny_bind (wpAny_letGo ?_))))
  show wpAny _ _ (if ((es.size : Nat) : Int) < 0 then _ else _) _ _ _
  rw [if_neg (by omega)]
  show wpAny _ _ (if ((es.size : Nat) : Int) ≥ 2 ^ 63 then _ else _) _ _ _
  rw [if_neg (by omega)]
  exact wpAny_bind (wpAny_mkInt (wpAny_pure ⟨_, rfl, q _ _ rfl rfl⟩))
theorem rd_collect {R : List Value → Shared → Prop} (hh : A.handled = none) (lo : (d == sysModules) = false) (r : RawD d es p s.heap) (z : es.size ≤ sizeLine)
    (q : ∀ (h' : Heap) (tk : Nat) (acc : Array Value), s.heap.objs.size < h'.objs.size → (∀ b o, s.heap.get? b = some o → h'.get? b = some o) → ItemsOf (fun i v => ∃ e, es[i]? = some e ∧ v = e.key) acc es.size → R acc.toList { s with heap := h', toks := tk }) :
    wpAny (model prog w) A (collect (.ref d)) R E s := by
  have lt := r.lt
  unfold collect
  refine wpAny_bind (wpAny_runValue (codeAny_builtin entry_proto_collect' ?_))
  rw [Around.under_plainId PySem.F.plain_proto_collect]
  show wpAny _ A.in1 (newList ([] : List Value) >>= fun l => again (.builtin "list.__iadd__" ⟨[l, .ref d], []⟩)) _ _ _
  refine wpAny_bind (wpAny_newObj_type (wpAny_pure ⟨plainId_quiet PySem.F.plain_list_iadd _, codeAny_builtin entry_list_iadd' ?_⟩))
  rw [Around.under_plainId PySem.F.plain_list_iadd]
  have l0 : (s.heap.push { cls := .type "list", data := .seq ([] : List Value).toArray }).get? s.heap.objs.size = some { cls := .type "list", data := .seq #[] } := Heap.get?_push_size _ rfl
  show wpAny _ A.in1 (Builtin.List.listExtendWith (.ref s.heap.objs.size) (.ref d) (.ref s.heap.objs.size)) _ _ _
  have go := kdl_extend (prog := prog) (w := w) (A := A) (s := { s with heap := s.heap.push { cls := .type "list", data := .seq ([] : List Value).toArray } })
    (R := fun (x : Result) (s2 : Shared) => ∃ (h2 : Heap) (tk : Nat) (ac : Array Value) (c2 : Nat), x = .ok (.ret (.ref s.heap.objs.size)) ∧ s2 = { s with heap := h2, toks := tk } ∧ (∀ b o, s.heap.get? b = some o → h2.get? b = some o) ∧
      h2.get? s.heap.objs.size = some { cls := .type "list", dict := none, data := .seq ac c2, slots := #[] } ∧ ItemsOf (fun i v => ∃ e, es[i]? = some e ∧ v = e.key) ac es.size)
    (rd_src (p := p) lo) hh (r.at fun o e => Heap.get?_push_of_some _ e) s.heap.objs.size (Nat.ne_of_gt lt) (Nat.ne_of_gt lt) (.ref s.heap.objs.size) 0 l0
    (fun h2 tk ac c2 k e i => ⟨h2, tk, ac, c2, rfl, rfl, fun b o x => k b o (Nat.ne_of_lt (Heap.lt_size x)) (Heap.get?_push_of_some _ x), e, i⟩) z
  have fin : ∀ {h2 : Heap} {tk : Nat} {ac : Array Value} {c2 : Nat}, (∀ b o, s.heap.get? b = some o → h2.get? b = some o) → h2.get? s.heap.objs.size = some { cls := .type "list", dict := none, data := .seq ac c2, slots := #[] } →
      ItemsOf (fun i v => ∃ e, es[i]? = some e ∧ v = e.key) ac es.size → R ac.toList { s with heap := h2, toks := tk } := fun {h2 tk ac c2} k e i => q h2 tk ac (Heap.lt_size e) k i
  refine wpAny_mono go (fun fn s2 x => ?_) fun e s2 x => ?_
  · cases fn with
    | done f =>
      obtain ⟨h2, tk, ac, c2, e, rfl, k, y, i⟩ := x
      cases e
      show wpAny _ A (load s.heap.objs.size >>= fun _ => _) _ _ _
      exact wpAny_bind (wpAny_load y (wpAny_pure (fin k y i)))
    | again c1 =>
      refine ⟨x.1, codeAny_mono x.2 fun r2 s3 y => ?_⟩
      obtain ⟨h2, tk, ac, c2, rfl, rfl, k, y, i⟩ := y
      show wpAny _ A (load s.heap.objs.size >>= fun _ => _) _ _ _
      exact wpAny_bind (wpAny_load y (wpAny_pure (fin k y i)))
  · obtain ⟨_, _, _, _, x, _⟩ := x
    cases x
theorem rd_sorted {Q : Value → Shared → Prop} {ss : List Str} (hh : A.handled = none) (lo : (d == sysModules) = false) (r : RawD d es p s.heap) (z : es.size < 64) (hs : ∀ vs : List Value, vs.length = es.size → (∀ (j : Nat) (v : Value), vs[j]? = some v → ∃ e, es[j]? = some e ∧ v = e.key) → StrsAre vs ss)
    (q : ∀ (D : Addr) (h' : Heap) (tk : Nat) (out : List Value) (ss' : List Str) (c : Nat), s.heap.objs.size ≤ D → (∀ b o, s.heap.get? b = some o → h'.get? b = some o) → h'.get? D = some (seqObj "list" out.toArray c) → StrsAre out ss' → ss'.Perm ss → sortedS ss' = true → Q (.ref D) { s with heap := h', toks := tk }) :
    wpAny (model prog w) A (call (.builtin "sorted") [.ref d]) Q E s := by
  have hn : es.size ≤ sizeLine := Nat.le_trans (Nat.le_of_lt z) (by decide)
  refine Calls.call_function_entry kind_sorted plain_sorted entry_sorted (args_sorted1 _) ?_
  unfold Builtin.«sorted»
  refine wpAny_bind (m := checkCount "sorted" 1 1 _) (wpAny_pure ?_)
  refine wpAny_bind (rd_collect (A := A.in1) hh lo r hn fun h' tk acc hsz hk hacc => ?_)
  have hl : acc.toList.length = es.size := by rw [Array.length_toList]; exact hacc.1
  have hS : StrsAre acc.toList ss := hs _ hl fun j v e => hacc.2 j v (by rw [← Array.getElem?_toList]; exact e)
  refine wpAny_bind (wpAny_newList ?_ (by rw [hl]; exact hn))
  have hoL : (h'.push (seqObj "list" acc.toList.toArray 0)).get? h'.objs.size = some (seqObj "list" acc.toList.toArray 0) := Heap.get?_push_size _ rfl
  refine wpAny_bind (wpAny_holding (wpAny_call_entry slot_list_sort ⟨_, hoL, rfl⟩ entry_list_sort (list_sort_treeK strKind_oneLt hoL hS.keysOf (fun v₁ v₂ rest e => keyKind_strs (by rw [← e]; exact hS)) (by rw [hl]; exact z) fun st' a1 a2 => ⟨_, rfl, ?_⟩) (args_list_sort _)))
  obtain ⟨ss', b1, b2, b3⟩ := sorted_out_str hS a1 a2
  obtain ⟨c, hc⟩ := sortedHeap_at (out := (arrOf st').map (·.2)) hoL
  refine wpAny_pure ⟨_, rfl, q h'.objs.size _ tk ((arrOf st').map (·.2)).toList ss' c (Nat.le_of_lt hsz) (fun b o e => ?_) ?_ b1 b2 b3⟩
  · have e' := hk b o e
    have hlt := Heap.lt_size e'
    rw [sortedHeap_old (Nat.ne_of_lt hlt) (by rw [size_push']; exact Nat.lt_succ_of_lt hlt)]
    exact Heap.get?_push_of_some _ e'
  · rw [Array.toArray_toList]; exact hc
end
end L3

/-! Dicts in calls: len(d), list(d), sorted(d). -/
namespace L3
open PySem PySem.Spec PyProof.Rows L2 PySem.W
theorem paired_at {α β : Type} {F : α → β → Prop} : ∀ {l : List α} {m : List β} {i : Nat} {a : α}, Paired F l m → l[i]? = some a → ∃ b, m[i]? = some b ∧ F a b
  | _, _, _, _, .nil, e => by simp at e
  | _, _, 0, _, .cons r _, e => by simp at e; subst e; exact ⟨_, rfl, r⟩
  | _, _, i + 1, a, .cons _ t, e => by
    obtain ⟨b, h1, h2⟩ := paired_at (i := i) (a := a) t (by simpa using e)
    exact ⟨b, by simpa using h1, h2⟩
theorem vals_by {ys : List V} {us : List Value} (hl : us.length = ys.length) (h : ∀ (i : Nat) (u : Value) (y : V), us[i]? = some u → ys[i]? = some y → RelV y u) : Vals ys us := by
  induction ys generalizing us with
  | nil => cases us with | nil => exact .nil | cons _ _ => cases hl
  | cons y ys ih =>
    cases us with
    | nil => cases hl
    | cons u us => exact .cons (h 0 u y rfl rfl) (ih (Nat.succ.inj hl) fun i u' y' e1 e2 => h (i + 1) u' y' (by simpa using e1) (by simpa using e2))
section
variable {X : Cx} {pins : List (Addr × Obj)} {σ : L2.St} {H : Hp} {s : Shared} {a : Addr}
theorem raw_k {kvs : List (Key × V)} (I : Inv X pins σ H s) (e : H a = some (.dK kvs)) : kvs.length ≤ sizeLine ∧ (a == sysModules) = false ∧ ∃ es p, RawD a es p s.heap ∧ es.size = kvs.length ∧ ∀ (i : Nat) (x : DictEntry) (kv : Key × V), es[i]? = some x → kvs[i]? = some kv → RelV (kV kv.1) x.key := by
  obtain ⟨z, lo, vs, r, o, es, p, h1, h2, h3, h4, h5, h6⟩ := (show ObjOk X.prog X.w H s.heap a (.dK kvs) from I.hok a _ e)
  have hsz : es.size = kvs.length := by rw [r.length, ← h5.length]; simp
  refine ⟨z, lo, es, p, ⟨o, h1, h2, h3⟩, hsz, fun i x kv ex ek => ?_⟩
  obtain ⟨q, hq, ⟨e1, _⟩⟩ := paired_at r ek
  have hk := (h5.get? (i := i) (e := x) (k := q.1) (v := q.2) (by rw [Array.getElem?_toList]; exact ex) hq).1
  rw [e1]
  rcases keyIs_shape hk with ⟨n, t, h7, h8⟩ | ⟨n, t, h7, h8⟩
  · rw [h7, h8]; exact ⟨t, rfl⟩
  · rw [h7, h8]; exact ⟨t, rfl⟩
theorem raw_t {kvs : List (List Key × V)} (I : Inv X pins σ H s) (e : H a = some (.dT kvs)) : kvs.length ≤ sizeLine ∧ (a == sysModules) = false ∧ ∃ es p, RawD a es p s.heap ∧ es.size = kvs.length ∧
    ∃ bs : List Addr, Paired (fun (kv : List Key × V) b => H b = some (.tup (kv.1.map kV))) kvs bs ∧ ∀ (i : Nat) (x : DictEntry) (b : Addr), es[i]? = some x → bs[i]? = some b → x.key = .ref b := by
  obtain ⟨z, lo, xs, r, o, es, p, h1, h2, h3, h4, h9⟩ := (show ObjOk X.prog X.w H s.heap a (.dT kvs) from I.hok a _ e)
  have hsz : es.size = kvs.length := by rw [Paired.length r, ← Array.length_toList, h4, List.length_map]
  refine ⟨z, lo, es, p, ⟨o, h1, h2, h3⟩, hsz, xs.map (·.2.1), ?_, fun i x b ex eb => ?_⟩
  · clear h4 h9 hsz z e
    induction r with
    | nil => exact .nil
    | cons q _ ih => exact .cons q.2.1 ih
  · rw [← Array.getElem?_toList, h4, List.getElem?_map] at ex
    rw [List.getElem?_map] at eb
    cases hx : xs[i]? with
    | none => rw [hx] at eb; cases eb
    | some q =>
      rw [hx] at ex eb
      cases ex
      cases eb
      rfl
def DLen (H : Hp) (a : Addr) (n : Nat) : Prop := (∃ kvs, H a = some (.dK kvs) ∧ n = kvs.length) ∨ ∃ kvs, H a = some (.dT kvs) ∧ n = kvs.length
theorem call_len_d : CallR X (.builtin "len") (fun xs H Q => ∃ a n, xs = [.ref a] ∧ DLen H a n ∧ Q (.int n) H) := by
  intro pins s σ H xs us Q I r h
  obtain ⟨a, n, rfl, hd, q⟩ := h
  obtain ⟨u, rfl, ru⟩ := vals1 r
  cases ru
  rcases hd with ⟨kvs, e, rfl⟩ | ⟨kvs, e, rfl⟩
  · obtain ⟨z, lo, es, p, rr, hs, _⟩ := raw_k I e
    refine rd_len lo rr (by rw [hs]; exact z) fun t s' _ e' => ?_
    rw [e', hs]
    exact ⟨.int kvs.length, H, I.tok _, ⟨t, rfl⟩, q⟩
  · obtain ⟨z, lo, es, p, rr, hs, _⟩ := raw_t I e
    refine rd_len lo rr (by rw [hs]; exact z) fun t s' _ e' => ?_
    rw [e', hs]
    exact ⟨.int kvs.length, H, I.tok _, ⟨t, rfl⟩, q⟩
def rListD : List V → Hp → VK → Prop := fun xs H Q => ∃ a, xs = [.ref a] ∧
  ((∃ kvs, H a = some (.dK kvs) ∧ ∀ l, H l = none → Q (.ref l) (upd H l (.lst (kvs.map fun kv => kV kv.1)))) ∨
   ∃ kvs, H a = some (.dT kvs) ∧ ∀ (bs : List Addr) l, Paired (fun (kv : List Key × V) b => H b = some (.tup (kv.1.map kV))) kvs bs → H l = none → Q (.ref l) (upd H l (.lst (bs.map V.ref))))
theorem call_list_d (hc : X.calm = true) : CallR X (.type "list") rListD := by
  intro pins s σ H xs us Q I r h
  obtain ⟨a, rfl, h⟩ := h
  obtain ⟨u, rfl, ru⟩ := vals1 r
  cases ru
  have fin : ∀ (ys : List V) (es : Array DictEntry) (h' : Heap) (tk : Nat) (acc : Array Value) (c : Nat), ys.length ≤ sizeLine → es.size = ys.length → (∀ (i : Nat) (x : DictEntry) (y : V), es[i]? = some x → ys[i]? = some y → RelV y x.key) →
      (∀ b o, s.heap.get? b = some o → h'.get? b = some o) → h'.get? s.heap.objs.size = some { cls := .type "list", dict := none, data := .seq acc c, slots := #[] } → ItemsOf (fun i v => ∃ e, es[i]? = some e ∧ v = e.key) acc es.size →
      (∀ l, H l = none → Q (.ref l) (upd H l (.lst ys))) → EP X pins σ Q (.ref s.heap.objs.size) { s with heap := h', toks := tk } := fun ys es h' tk acc c z hs hr kp e it q => by
    refine ⟨.ref s.heap.objs.size, _, I.laid (t' := tk) (o := .lst ys) kp (Nat.le_refl _) ⟨z, acc.toList, c, vals_by (by rw [Array.length_toList, it.1, hs]) fun i u y e1 e2 => ?_, ?_⟩, rfl, q _ (I.hok.fresh (Nat.le_refl _))⟩
    · obtain ⟨x, ex, rfl⟩ := it.2 i u (by rw [← Array.getElem?_toList]; exact e1)
      exact hr i x y ex e2
    · rw [Array.toArray_toList]; exact e
  rcases h with ⟨kvs, e, q⟩ | ⟨kvs, e, q⟩
  · obtain ⟨z, lo, es, p, rr, hs, hr⟩ := raw_k I e
    refine kdl_call (rd_src (p := p) lo) (I.ok.hd hc) rr (by rw [hs]; exact z) fun h' tk acc c kp e' it => fin _ es h' tk acc c (by rw [List.length_map]; exact z) (by rw [List.length_map]; exact hs) (fun i x y ex ey => ?_) kp e' it q
    rw [List.getElem?_map] at ey
    cases hk : kvs[i]? with
    | none => rw [hk] at ey; cases ey
    | some kv => rw [hk] at ey; cases ey; exact hr i x kv ex hk
  · obtain ⟨z, lo, es, p, rr, hs, bs, pb, hr⟩ := raw_t I e
    have hb := Paired.length pb
    refine kdl_call (rd_src (p := p) lo) (I.ok.hd hc) rr (by rw [hs]; exact z) fun h' tk acc c kp e' it => fin _ es h' tk acc c (by rw [List.length_map, ← hb]; exact z) (by rw [List.length_map, ← hb]; exact hs) (fun i x y ex ey => ?_) kp e' it fun l hl => q bs l pb hl
    rw [List.getElem?_map] at ey
    cases hk : bs[i]? with
    | none => rw [hk] at ey; cases ey
    | some b => rw [hk] at ey; cases ey; exact hr i x b ex hk
theorem vals_of_strs : ∀ {vs : List Value} {ss : List Str}, StrsAre vs ss → Vals (ss.map V.str) vs
  | _, _, .nil => .nil
  | _, _, .cons x t r => .cons ⟨t, rfl⟩ (vals_of_strs r)
theorem strs_of_vals : ∀ {vs : List Value} {ss : List Str}, Vals (ss.map V.str) vs → StrsAre vs ss
  | _, [], r => by cases r; exact .nil
  | _, x :: ss, r => by
    cases r with
    | cons r1 r2 =>
      obtain ⟨t, rfl⟩ := r1
      exact .cons x t (strs_of_vals r2)
def rSortD : List V → Hp → VK → Prop := fun xs H Q => ∃ a kvs ss, xs = [.ref a] ∧ H a = some (.dK kvs) ∧ kvs.length < 64 ∧ kvs.map (fun kv => kV kv.1) = ss.map V.str ∧ ∀ l ss', ss'.Perm ss → sortedS ss' = true → H l = none → Q (.ref l) (upd H l (.lst (ss'.map V.str)))
theorem call_sorted_d (hc : X.calm = true) : CallR X (.builtin "sorted") rSortD := by
  intro pins s σ H xs us Q I r h
  obtain ⟨a, kvs, ss, rfl, e, z, hk, q⟩ := h
  obtain ⟨u, rfl, ru⟩ := vals1 r
  cases ru
  obtain ⟨_, lo, es, p, rr, hs, hr⟩ := raw_k I e
  refine rd_sorted (ss := ss) (I.ok.hd hc) lo rr (by rw [hs]; exact z) (fun vs hl hv => strs_of_vals ?_) fun D h' tk out ss' c hD kp e' so hp hss => ?_
  · rw [← hk]
    refine vals_by (by rw [hl, List.length_map]; exact hs) fun i u y e1 e2 => ?_
    obtain ⟨x, ex, rfl⟩ := hv i u e1
    rw [List.getElem?_map] at e2
    cases hi : kvs[i]? with
    | none => rw [hi] at e2; cases e2
    | some kv => rw [hi] at e2; cases e2; exact hr i x kv ex hi
  · have hn : H D = none := I.hok.fresh hD
    have hl : ss'.length < 64 := by
      have h1 := hp.length_eq
      have h2 := congrArg List.length hk
      rw [List.length_map, List.length_map] at h2
      omega
    exact ⟨.ref D, _, I.laid (t' := tk) (o := .lst (ss'.map V.str)) kp hD ⟨by rw [List.length_map]; exact Nat.le_trans (Nat.le_of_lt hl) (by decide), out, c, vals_of_strs so, e'⟩, rfl, q D ss' hp hss hn⟩
end
end L3
namespace L3
open PySem PySem.Spec PyProof.Rows L2
theorem bt_sorted : bootBuiltins "sorted" = some (.builtin "sorted") := by decide +kernel
theorem for_str {x : Str} {g : TG} {tb : TS} {D : Ends} {σ : L2.St} {H : Hp} (Pv : Nat → L2.St → Hp → Prop) (h0 : Pv 0 σ H)
    (hs : ∀ i c σ H, x.cps.toList[i]? = some c → Pv i σ H → g (.str ⟨#[c]⟩) σ H fun σ2 H2 => tb { D with nx := Pv (i + 1), ct := Pv (i + 1), bk := D.nx } σ2 H2) (hd : ∀ σ H, Pv x.cps.toList.length σ H → D.nx σ H) :
    ∃ W : Nat → Nat → L2.St → Hp → Prop, (∃ m, W 0 m σ H) ∧ ∀ i m σ H, W i m σ H →
      ((Its x).stop i H ∧ D.nx σ H) ∨ ((Its x).go i H ∧ ∃ N : L2.St → Hp → Prop, (∀ σ' H', N σ' H' → ∃ m', m' < m ∧ W (i + 1) m' σ' H') ∧ ∀ v H', (Its x).yld i H v H' → g v σ H' fun σ2 H2 => tb { D with nx := N, ct := N, bk := D.nx } σ2 H2) := by
  refine ⟨fun i m σ H => m = x.cps.size - i ∧ i ≤ x.cps.size ∧ Pv i σ H, ⟨x.cps.size, by simp, Nat.zero_le _, h0⟩, ?_⟩
  rintro i m σ H ⟨rfl, hi, p⟩
  by_cases c : i < x.cps.size
  · refine .inr ⟨c, Pv (i + 1), fun σ' H' p' => ⟨x.cps.size - (i + 1), by omega, rfl, c, p'⟩, fun v H' y => ?_⟩
    obtain ⟨rfl, k, hk, rfl⟩ := y
    exact hs i k σ _ (by rw [Array.getElem?_toList]; exact hk) p
  · have e : i = x.cps.toList.length := by rw [Array.length_toList]; omega
    refine .inl ⟨Nat.le_of_not_lt c, hd σ H (e ▸ p)⟩
end L3

/-! isinstance of deep data. -/
namespace L3
open PySem PySem.Spec PyProof.Rows L2
section
variable {X : Cx}
end
end L3
namespace L3
open PySem PySem.Spec PyProof.Rows L2
section
variable {X : Cx}
end
end L3

/-! the fragment named outright, everywhere: the readings are shorter so. -/
namespace L3
open PySem PySem.Spec PyProof.Rows L2
theorem kPI {X : Cx} {K : PySem.W.Frag} {tg it : Expr} (f : PySem.W.Frag → TI) (h : PI X tg it (f X.K)) (e : X.K = K := by rfl) : PI X tg it (f K) := e ▸ h
theorem kPE {X : Cx} {K : PySem.W.Frag} {ex : Expr} (f : PySem.W.Frag → TE) (h : PE X ex (f X.K)) (e : X.K = K := by rfl) : PE X ex (f K) := e ▸ h
theorem kPG {X : Cx} {K : PySem.W.Frag} {tg : Expr} (f : PySem.W.Frag → TG) (h : PG X tg (f X.K)) (e : X.K = K := by rfl) : PG X tg (f K) := e ▸ h
theorem kCall {X : Cx} {K : PySem.W.Frag} {f : Value} (r : PySem.W.Frag → List V → Hp → VK → Prop) (h : CallR X f (r X.K)) (e : X.K = K := by rfl) : CallR X f (r K) := e ▸ h
def rLo (K : PySem.W.Frag) : List V → Hp → VK → Prop := fun xs H Q => ∃ p ys, xs = [.ref p] ∧ (SqL K H p ys ∨ SqT K H p ys) ∧ ∀ l, H l = none → Q (.ref l) (upd H l (.lst ys))
def rIs (K : PySem.W.Frag) : List V → Hp → VK → Prop := fun xs H Q => ∃ x T t b, xs = [x, .ty T] ∧ TyOf K H x t ∧ PySem.W.kitOne K t (.type T) = some b ∧ Q (.bl b) H
def rIsX (K : PySem.W.Frag) : List V → Hp → VK → Prop := fun xs H Q => ∃ x C y u b, xs = [.ref x, y] ∧ H x = some (Exc x C) ∧ XCls K C ∧ clsV y = some u ∧ PySem.W.kitOne K (.ref C) u = some b ∧ Q (.bl b) H
end L3

namespace My
open PySem PySem.Spec PyProof.Rows L2 L3
def top (i : Nat) : Stmt := PySem.Challenge.pw_earlyscribe_k14_written_for.main.body.getD i (.Pass ⟨0, 0, 0, 0⟩)
abbrev s_all_unlike : Stmt := top 15
abbrev s_is_plain : Stmt := top 16
abbrev s_refuse_choices : Stmt := top 17
abbrev s_steps_by_start : Stmt := top 18
abbrev s_end_words_by_room : Stmt := top 19
abbrev s_read_from : Stmt := top 20
abbrev s_written_for : Stmt := top 21
abbrev s_refuse_many : Stmt := top 22
abbrev s_pairs_behind : Stmt := top 23
abbrev s_all_written : Stmt := top 24
abbrev s_law_cell_at : Stmt := top 26
abbrev s_law_digits_at : Stmt := top 27
abbrev s_law_word : Stmt := top 28
abbrev s_law_scribe : Stmt := top 29
abbrev s_law_run : Stmt := top 30
abbrev s_law_text : Stmt := top 31
abbrev s_law_copied : Stmt := top 32
abbrev s_law_kinds : Stmt := top 33
abbrev s_law_plain : Stmt := top 34
abbrev s_law_asked : Stmt := top 35
abbrev s_law : Stmt := top 36
structure Bi (mg : Str → Option Value) : Prop where
  ValueError : mg "ValueError" = none
  int : mg "int" = none
  isinstance : mg "isinstance" = none
  len : mg "len" = none
  list : mg "list" = none
  max : mg "max" = none
  min : mg "min" = none
  range : mg "range" = none
  set : mg "set" = none
  sorted : mg "sorted" = none
  str : mg "str" = none
  BEGINS : ∃ t, mg "BEGINS" = some (.int 2 t)
  ENDS : ∃ t, mg "ENDS" = some (.int 4 t)
  MOST_PAIRS : ∃ t, mg "MOST_PAIRS" = some (.int 1000 t)
  STEPS : ∃ t, mg "STEPS" = some (.int 3 t)
structure Xb (K : PySem.W.Frag) (mg : Str → Option Value) (c_ScribeError c_NoWay c_NoRoom c_NotPlain c_OtherSigns c_TooMany c_TwoWays c_NeverPlain c_NoText : Addr) : Prop where
  nm_ScribeError : mg "ScribeError" = some (.ref c_ScribeError)
  nm_NoWay : mg "NoWay" = some (.ref c_NoWay)
  nm_NoRoom : mg "NoRoom" = some (.ref c_NoRoom)
  nm_NotPlain : mg "NotPlain" = some (.ref c_NotPlain)
  nm_OtherSigns : mg "OtherSigns" = some (.ref c_OtherSigns)
  nm_TooMany : mg "TooMany" = some (.ref c_TooMany)
  nm_TwoWays : mg "TwoWays" = some (.ref c_TwoWays)
  nm_NeverPlain : mg "NeverPlain" = some (.ref c_NeverPlain)
  nm_NoText : mg "NoText" = some (.ref c_NoText)
  own_NotPlain : OwnX K mg "NotPlain" c_NotPlain
  xc_NotPlain : XCls K c_NotPlain
  own_TooMany : OwnX K mg "TooMany" c_TooMany
  xc_TooMany : XCls K c_TooMany
  cl_ScribeError : Clause K mg "ScribeError" c_ScribeError
  sub_NotPlain_ScribeError : PySem.W.mroIn K c_NotPlain (.ref c_ScribeError) = some true
  sub_TooMany_ScribeError : PySem.W.mroIn K c_TooMany (.ref c_ScribeError) = some true
  is_NotPlain_NoText : PySem.W.kitOne K (.ref c_NotPlain) (.ref c_NoText) = some false
  is_NotPlain_NeverPlain : PySem.W.kitOne K (.ref c_NotPlain) (.ref c_NeverPlain) = some false
  is_NotPlain_TwoWays : PySem.W.kitOne K (.ref c_NotPlain) (.ref c_TwoWays) = some false
  is_NotPlain_TooMany : PySem.W.kitOne K (.ref c_NotPlain) (.ref c_TooMany) = some false
  is_NotPlain_OtherSigns : PySem.W.kitOne K (.ref c_NotPlain) (.ref c_OtherSigns) = some false
  is_NotPlain_NotPlain : PySem.W.kitOne K (.ref c_NotPlain) (.ref c_NotPlain) = some true
  is_NotPlain_NoRoom : PySem.W.kitOne K (.ref c_NotPlain) (.ref c_NoRoom) = some false
  is_NotPlain_NoWay : PySem.W.kitOne K (.ref c_NotPlain) (.ref c_NoWay) = some false
  iv_NotPlain_ValueError : PySem.W.kitOne K (.ref c_NotPlain) (.type "ValueError") = some true
  is_TooMany_NoText : PySem.W.kitOne K (.ref c_TooMany) (.ref c_NoText) = some false
  is_TooMany_NeverPlain : PySem.W.kitOne K (.ref c_TooMany) (.ref c_NeverPlain) = some false
  is_TooMany_TwoWays : PySem.W.kitOne K (.ref c_TooMany) (.ref c_TwoWays) = some false
  is_TooMany_TooMany : PySem.W.kitOne K (.ref c_TooMany) (.ref c_TooMany) = some true
  is_TooMany_OtherSigns : PySem.W.kitOne K (.ref c_TooMany) (.ref c_OtherSigns) = some false
  is_TooMany_NotPlain : PySem.W.kitOne K (.ref c_TooMany) (.ref c_NotPlain) = some false
  is_TooMany_NoRoom : PySem.W.kitOne K (.ref c_TooMany) (.ref c_NoRoom) = some false
  is_TooMany_NoWay : PySem.W.kitOne K (.ref c_TooMany) (.ref c_NoWay) = some false
  iv_TooMany_ValueError : PySem.W.kitOne K (.ref c_TooMany) (.type "ValueError") = some true

local macro_rules | `(tactic| walk_at "side") => `(tactic| first | exact pz | exact ⟨pz, pz⟩ | exact .inr ⟨by decide, by decide⟩ | exact ⟨by omega, by omega⟩ | exact .inl ⟨by omega, by omega⟩ | exact .inr ⟨by omega, by omega⟩ | (show (0 : Int) < _; omega) | exact szl (by simp) | exact szl (by omega))
local macro_rules | `(tactic| walk_at "r") => `(tactic| first | refine ⟨_, rfl, ?_⟩ | refine ⟨_, _, rfl, rfl, ?_⟩ | refine ⟨rfl, ?_⟩ | refine ⟨by walk_at "side", ?_⟩)
local macro_rules | `(tactic| walk_at "rd") => `(tactic| repeat walk_at "r")

def isNum (lo hi : Int) (v : V) : Prop := ∃ n : Int, v = .int n ∧ lo ≤ n ∧ n ≤ hi
def spUnlike (K : PySem.W.Frag) : Sp := fun vs H Q _ => ∃ p, vs = [.ref p] ∧ ((∃ ys ks, SqL K H p ys ∧ Paired (KeyV K H) ks ys ∧ ks.length ≤ 999 ∧ ∀ H', Same H H' → Q (.bl (decide ks.Nodup)) H') ∨
  ∃ ks : List Key, SqL K H p (ks.map kV) ∧ ks.length ≤ 4000 ∧ ∀ H', Same H H' → Q (.bl (decide ks.Nodup)) H')
def outs (s : Scr) : List (List Key) := s.steps.map fun t => [Sum.inl t.1, Sum.inr t.2.1]
def lasts (s : Scr) : List Key := s.ends.map fun e => Sum.inl e.1
def plainB (s : Scr) : Bool := !decide (s.begins.length > 1) && decide (outs s).Nodup && decide (lasts s).Nodup
def spPlain (K : PySem.W.Frag) : Sp := fun vs H Q _ => ∃ v s pb ps pe, vs = [v] ∧ ScV K H s v pb ps pe ∧ s.steps.length ≤ 999 ∧ s.ends.length ≤ 999 ∧ ∀ H', Same H H' → Q (.bl (plainB s)) H'
theorem szl' {n : Nat} (h : n ≤ 99999) : n < sizeLine := Nat.lt_of_lt_of_le (Nat.lt_succ_of_le h) (szl (by omega))
theorem KeyV.mono {K : PySem.W.Frag} {H H' : Hp} {m : List Key} {v : V} (g : Grow H H') : KeyV K H m v → KeyV K H' m v := fun ⟨b, e, h⟩ => ⟨b, e, g.seqT h⟩
theorem nd_int {n m : Nat} : decide (V.int (n : Int) = V.int (m : Int)) = decide (n = m) := by
  by_cases h : n = m
  · simp [h]
  · rw [decide_eq_false h, decide_eq_false]; intro e; injection e with e; exact h (by omega)
theorem nodup_dec {κ : Type} [DecidableEq κ] (ks : List κ) : decide (ndist ks.reverse = ks.length) = decide ks.Nodup := by
  have h := ndist_nodup ks.reverse
  rw [List.length_reverse, (List.reverse_perm ks).nodup_iff] at h
  exact decide_eq_decide.mpr h

def Wd (x : Str) : Prop := x.length ≤ 40 ∧ ∀ c ∈ cl x, 97 ≤ c ∧ c ≤ 122
structure OkS (pl : Bool) (s : Scr) (n : Nat) : Prop where
  lb : s.begins.length ≤ n
  ls : s.steps.length ≤ n
  le : s.ends.length ≤ n
  mb : ∀ m ∈ s.begins, 0 ≤ m.1 ∧ m.1 < s.rooms ∧ Wd m.2
  ms : ∀ t ∈ s.steps, 0 ≤ t.1 ∧ t.1 < s.rooms ∧ (∃ c ∈ cl s.signs, t.2.1 = ⟨#[c]⟩) ∧ Wd t.2.2.1 ∧ 0 ≤ t.2.2.2 ∧ t.2.2.2 < s.rooms
  me : ∀ m ∈ s.ends, 0 ≤ m.1 ∧ m.1 < s.rooms ∧ Wd m.2
  nb : s.begins.Nodup
  ns : s.steps.Nodup
  ne : s.ends.Nodup
  pb : pl = true → s.begins.length ≤ 1
  po : pl = true → (s.steps.map fun t => (t.1, t.2.1)).Nodup
  pe : pl = true → (s.ends.map (·.1)).Nodup
theorem OkS.mono {pl : Bool} {s : Scr} {n m : Nat} (h : OkS pl s n) (le : n ≤ m) : OkS pl s m :=
  ⟨Nat.le_trans h.lb le, Nat.le_trans h.ls le, Nat.le_trans h.le le, h.mb, h.ms, h.me, h.nb, h.ns, h.ne, h.pb, h.po, h.pe⟩
theorem nodup_snoc {α : Type} {xs : List α} {x : α} (h : xs.Nodup) (hn : x ∉ xs) : (xs ++ [x]).Nodup := by
  rw [List.nodup_append]
  refine ⟨h, by simp, fun a ha b hb => ?_⟩
  rw [List.mem_singleton] at hb
  subst hb
  intro e; subst e; exact hn ha
theorem OkS.begin {pl : Bool} {g : Str} {r : Int} {B : List Mk} {S : List Stp} {E : List Mk} {n : Nat} (h : OkS pl ⟨g, r, B, S, E⟩ n) {i : Int} {x : Str} (h0 : 0 ≤ i) (h1 : i < r) (hw : Wd x) (hn : (i, x) ∉ B) (hp : pl = true → B.length = 0) : OkS pl ⟨g, r, B ++ [(i, x)], S, E⟩ (n + 1) := by
  have ha := h.mono (Nat.le_succ n)
  refine ⟨?_, ha.ls, ha.le, fun m hm => ?_, h.ms, h.me, nodup_snoc h.nb hn, h.ns, h.ne, fun q => ?_, h.po, h.pe⟩
  · show (B ++ [(i, x)]).length ≤ n + 1
    have : B.length ≤ n := h.lb
    rw [List.length_append, List.length_singleton]; omega
  · rcases List.mem_append.mp hm with hm | hm
    · exact h.mb m hm
    · rw [List.mem_singleton.mp hm]; exact ⟨h0, h1, hw⟩
  · show (B ++ [(i, x)]).length ≤ 1
    rw [List.length_append, hp q, List.length_singleton]; omega
theorem OkS.end_ {pl : Bool} {g : Str} {r : Int} {B : List Mk} {S : List Stp} {E : List Mk} {n : Nat} (h : OkS pl ⟨g, r, B, S, E⟩ n) {i : Int} {x : Str} (h0 : 0 ≤ i) (h1 : i < r) (hw : Wd x) (hn : (i, x) ∉ E) (hp : pl = true → ∀ m ∈ E, m.1 ≠ i) : OkS pl ⟨g, r, B, S, E ++ [(i, x)]⟩ (n + 1) := by
  have ha := h.mono (Nat.le_succ n)
  refine ⟨ha.lb, ha.ls, ?_, h.mb, h.ms, fun m hm => ?_, h.nb, h.ns, nodup_snoc h.ne hn, h.pb, h.po, fun q => ?_⟩
  · show (E ++ [(i, x)]).length ≤ n + 1
    have : E.length ≤ n := h.le
    rw [List.length_append, List.length_singleton]; omega
  · rcases List.mem_append.mp hm with hm | hm
    · exact h.me m hm
    · rw [List.mem_singleton.mp hm]; exact ⟨h0, h1, hw⟩
  · show ((E ++ [(i, x)]).map (·.1)).Nodup
    rw [List.map_append]
    refine nodup_snoc (h.pe q) fun hm => ?_
    obtain ⟨m, hm, e⟩ := List.mem_map.mp hm
    exact hp q m hm e
theorem OkS.step {pl : Bool} {g : Str} {r : Int} {B : List Mk} {S : List Stp} {E : List Mk} {n : Nat} (h : OkS pl ⟨g, r, B, S, E⟩ n) {i j : Int} {y x : Str} (h0 : 0 ≤ i) (h1 : i < r) (hy : ∃ c ∈ cl g, y = ⟨#[c]⟩) (hw : Wd x) (h2 : 0 ≤ j) (h3 : j < r) (hn : (i, y, x, j) ∉ S) (hp : pl = true → ∀ t ∈ S, ¬ (t.1 = i ∧ t.2.1 = y)) :
    OkS pl ⟨g, r, B, S ++ [(i, y, x, j)], E⟩ (n + 1) := by
  have ha := h.mono (Nat.le_succ n)
  refine ⟨ha.lb, ?_, ha.le, h.mb, fun t ht => ?_, h.me, h.nb, nodup_snoc h.ns hn, h.ne, h.pb, fun q => ?_, h.pe⟩
  · show (S ++ [(i, y, x, j)]).length ≤ n + 1
    have : S.length ≤ n := h.ls
    rw [List.length_append, List.length_singleton]; omega
  · rcases List.mem_append.mp ht with hm | hm
    · exact h.ms t hm
    · rw [List.mem_singleton.mp hm]; exact ⟨h0, h1, hy, hw, h2, h3⟩
  · show ((S ++ [(i, y, x, j)]).map fun t => (t.1, t.2.1)).Nodup
    rw [List.map_append]
    refine nodup_snoc (h.po q) fun hm => ?_
    obtain ⟨t, hm, e⟩ := List.mem_map.mp hm
    injection e with e1 e2
    exact hp q t hm ⟨e1, e2⟩
def HI (K : PySem.W.Frag) (H0 : Hp) (pb ps pe : Addr) (pl : Bool) (g : Str) (r : Int) (n : Nat) (H : Hp) : Prop := ∃ B S E xb xs xe, Same H0 H ∧ H pb = some (.lst xb) ∧ H ps = some (.lst xs) ∧ H pe = some (.lst xe) ∧
  Paired (MkV K H) B xb ∧ Paired (StV K H) S xs ∧ Paired (MkV K H) E xe ∧ OkS pl ⟨g, r, B, S, E⟩ n
theorem same_updN {H0 H : Hp} {p : Addr} {o : HO} (g : Same H0 H) (h : H0 p = none) : Same H0 (upd H p o) := fun b u q => by rw [upd_ne (ne_of_none q h)]; exact g b u q
theorem HI.mono {K : PySem.W.Frag} {H0 H H' : Hp} {pb ps pe : Addr} {pl : Bool} {g : Str} {r : Int} {n m : Nat} (h : HI K H0 pb ps pe pl g r n H) (s : Same H H') (le : n ≤ m) : HI K H0 pb ps pe pl g r m H' := by
  obtain ⟨B, S, E, xb, xs, xe, h1, h2, h3, h4, h5, h6, h7, h8⟩ := h
  have g' := Same.grow s
  exact ⟨B, S, E, xb, xs, xe, h1.trans s, s _ _ h2, s _ _ h3, s _ _ h4, paired_mono (fun _ _ => MkV.mono g') h5, paired_mono (fun _ _ => StV.mono g') h6, paired_mono (fun _ _ => MkV.mono g') h7, h8.mono le⟩
structure Apart (H0 : Hp) (pb ps pe : Addr) : Prop where
  nb : H0 pb = none
  ns : H0 ps = none
  ne : H0 pe = none
  bs : pb ≠ ps
  be : pb ≠ pe
  se : ps ≠ pe
def cellAt (ns : List Int) (k : Int) : Int := if k < ns.length then (ns[k.toNat]?).getD 0 else 0
def spCell (K : PySem.W.Frag) : Sp := fun vs H Q _ => ∃ (a : Addr) (ns : List Int) (k : Int), vs = [.ref a, .int k] ∧ SqL K H a (ns.map V.int) ∧ 0 ≤ k ∧ Q (.int (cellAt ns k)) H
def spDigits (K : PySem.W.Frag) : Sp := fun vs H Q _ => ∃ (a : Addr) (ns : List Int) (k : Int), vs = [.ref a, .int k] ∧ SqL K H a (ns.map V.int) ∧ 0 ≤ k ∧ ∀ n, Q (.int n) H
def spWord : Sp := fun vs H Q _ => ∃ c : Int, vs = [.int c] ∧ ∀ (x : Str) (H' : Hp), Wd x → Same H H' → Q (.str x) H'
def NewS (K : PySem.W.Frag) (H H' : Hp) (pl : Bool) (n : Nat) (s : Scr) (v : V) (pb ps pe : Addr) : Prop := Same H H' ∧ ScV K H' s v pb ps pe ∧ OkS pl s n ∧ 0 ≤ s.rooms ∧ s.rooms ≤ 14 ∧ 1 ≤ s.signs.length ∧ s.signs.length ≤ 5 ∧ (cl s.signs).Nodup ∧ (∀ c ∈ cl s.signs, 97 ≤ c ∧ c ≤ 122)
def spScribe (K : PySem.W.Frag) : Sp := fun vs H Q _ => ∃ (a : Addr) (ns : List Int) (at_ : Int) (pl : Bool), vs = [.ref a, .int at_, .bl pl] ∧ SqL K H a (ns.map V.int) ∧ ns.length ≤ 63 ∧ 0 ≤ at_ ∧ at_ ≤ 63 ∧ ∀ v H' s pb ps pe, NewS K H H' pl 95 s v pb ps pe → Q v H'
def ScN (K : PySem.W.Frag) (H : Hp) (s : Scr) (v : V) (pb ps pe : Addr) : Prop := ∃ a xb xs xe, v = .ref a ∧ SqT K H a [.str s.signs, .int s.rooms, .ref pb, .ref ps, .ref pe] ∧ H pb = some (.lst xb) ∧ H ps = some (.lst xs) ∧ H pe = some (.lst xe) ∧
  Paired (MkV K H) s.begins xb ∧ Paired (StV K H) s.steps xs ∧ Paired (MkV K H) s.ends xe
theorem ScN.v {K : PySem.W.Frag} {H : Hp} {s : Scr} {v : V} {pb ps pe : Addr} : ScN K H s v pb ps pe → ScV K H s v pb ps pe
  | ⟨a, xb, xs, xe, e, h1, h2, h3, h4, h5, h6, h7⟩ => ⟨a, xb, xs, xe, e, h1, SqL.of h2, SqL.of h3, SqL.of h4, h5, h6, h7⟩
def spCopied (K : PySem.W.Frag) : Sp := fun vs H Q _ => ∃ v s pb ps pe, vs = [v] ∧ ScV K H s v pb ps pe ∧ ∀ v' H' pb' ps' pe', Same H H' → ScN K H' s v' pb' ps' pe' → Apart H pb' ps' pe' → Q v' H'

def isAbc (v : V) : Prop := ∃ x : Str, v = .str x ∧ x.length = 3 ∧ ∀ c ∈ cl x, 97 ≤ c ∧ c ≤ 122
theorem one_len (c : Nat) : (⟨#[c]⟩ : Str).length = 1 := rfl
theorem len_app (a b : Str) : (a ++ b).length = a.length + b.length := by
  rw [← cl_length, cl_append, List.length_append, cl_length, cl_length]
theorem cl_nil : ∀ c ∈ cl ("" : Str), 97 ≤ c ∧ c ≤ 122 := by
  intro c hc
  have e : cl ("" : Str) = [] := by decide +kernel
  rw [e] at hc; cases hc
theorem cl_one (c : Nat) : cl ⟨#[c]⟩ = [c] := rfl

theorem iteB {b : Bool} {A B : Prop} (h1 : b = true → A) (h2 : b = false → B) : if b = true then A else B := by
  cases b
  · exact iteF (h2 rfl)
  · exact iteT (h1 rfl)
theorem modmax (n : Int) {r : Int} (hr : 0 ≤ r) : 0 ≤ n % (if r > 1 then r else 1) ∧ (0 < r → n % (if r > 1 then r else 1) < r) := by
  have hp : 0 < (if r > 1 then r else 1) := by split <;> omega
  refine ⟨Int.emod_nonneg _ (by omega), fun h => ?_⟩
  have := Int.emod_lt_of_pos n hp
  split at this <;> split <;> omega
def SgnOk (g : Str) : Prop := 1 ≤ g.length ∧ g.length ≤ 5 ∧ (cl g).Nodup ∧ ∀ c ∈ cl g, 97 ≤ c ∧ c ≤ 122
def isSgn (v : V) : Prop := ∃ g : Str, v = .str g ∧ SgnOk g
theorem HI.addStep {K : PySem.W.Frag} {H0 H : Hp} {pb ps pe : Addr} {pl : Bool} {g : Str} {r : Int} {n : Nat} {B : List Mk} {S : List Stp} {E : List Mk} {xb xs xe : List V} {t : Stp} {v : V} (A : Apart H0 pb ps pe) (h1 : Same H0 H) (h2 : H pb = some (.lst xb)) (h3 : H ps = some (.lst xs)) (h4 : H pe = some (.lst xe))
    (h5 : Paired (MkV K H) B xb) (h6 : Paired (StV K H) S xs) (h7 : Paired (MkV K H) E xe) (h8 : OkS pl ⟨g, r, B, S ++ [t], E⟩ n) (hv : StV K H t v) : HI K H0 pb ps pe pl g r n (upd H ps (.lst (xs ++ [v]))) := by
  have gr := grow_upd h3 (.lst (xs ++ [v]))
  exact ⟨B, S ++ [t], E, xb, xs ++ [v], xe, same_updN h1 A.ns, by rw [upd_ne A.bs]; exact h2, upd_same, by rw [upd_ne A.se.symm]; exact h4, paired_mono (fun _ _ => MkV.mono gr) h5,
    paired_append (paired_mono (fun _ _ => StV.mono gr) h6) (.cons (StV.mono gr hv) .nil), paired_mono (fun _ _ => MkV.mono gr) h7, h8⟩
theorem HI.addEnd {K : PySem.W.Frag} {H0 H : Hp} {pb ps pe : Addr} {pl : Bool} {g : Str} {r : Int} {n : Nat} {B : List Mk} {S : List Stp} {E : List Mk} {xb xs xe : List V} {t : Mk} {v : V} (A : Apart H0 pb ps pe) (h1 : Same H0 H) (h2 : H pb = some (.lst xb)) (h3 : H ps = some (.lst xs)) (h4 : H pe = some (.lst xe))
    (h5 : Paired (MkV K H) B xb) (h6 : Paired (StV K H) S xs) (h7 : Paired (MkV K H) E xe) (h8 : OkS pl ⟨g, r, B, S, E ++ [t]⟩ n) (hv : MkV K H t v) : HI K H0 pb ps pe pl g r n (upd H pe (.lst (xe ++ [v]))) := by
  have gr := grow_upd h4 (.lst (xe ++ [v]))
  exact ⟨B, S, E ++ [t], xb, xs, xe ++ [v], same_updN h1 A.ne, by rw [upd_ne A.be]; exact h2, by rw [upd_ne A.se]; exact h3, upd_same, paired_mono (fun _ _ => MkV.mono gr) h5,
    paired_mono (fun _ _ => StV.mono gr) h6, paired_append (paired_mono (fun _ _ => MkV.mono gr) h7) (.cons (MkV.mono gr hv) .nil), h8⟩
theorem HI.addBegin {K : PySem.W.Frag} {H0 H : Hp} {pb ps pe : Addr} {pl : Bool} {g : Str} {r : Int} {n : Nat} {B : List Mk} {S : List Stp} {E : List Mk} {xb xs xe : List V} {t : Mk} {v : V} (A : Apart H0 pb ps pe) (h1 : Same H0 H) (h2 : H pb = some (.lst xb)) (h3 : H ps = some (.lst xs)) (h4 : H pe = some (.lst xe))
    (h5 : Paired (MkV K H) B xb) (h6 : Paired (StV K H) S xs) (h7 : Paired (MkV K H) E xe) (h8 : OkS pl ⟨g, r, B ++ [t], S, E⟩ n) (hv : MkV K H t v) : HI K H0 pb ps pe pl g r n (upd H pb (.lst (xb ++ [v]))) := by
  have gr := grow_upd h2 (.lst (xb ++ [v]))
  exact ⟨B ++ [t], S, E, xb ++ [v], xs, xe, same_updN h1 A.nb, upd_same, by rw [upd_ne A.bs.symm]; exact h3, by rw [upd_ne A.be.symm]; exact h4, paired_append (paired_mono (fun _ _ => MkV.mono gr) h5) (.cons (MkV.mono gr hv) .nil),
    paired_mono (fun _ _ => StV.mono gr) h6, paired_mono (fun _ _ => MkV.mono gr) h7, h8⟩
theorem notIn_mk {K : PySem.W.Frag} {H : Hp} {E : List Mk} {xe : List V} {m : Mk} (h : Paired (MkV K H) E xe) : Reps K H (E.map dMk) xe := reps_of (f := dMk) (F := MkV K H) (fun _ _ h => MkV.rep h) h
theorem reps_st {K : PySem.W.Frag} {H : Hp} {E : List Stp} {xe : List V} (h : Paired (StV K H) E xe) : Reps K H (E.map dSt) xe := reps_of (f := dSt) (F := StV K H) (fun _ _ h => StV.rep h) h
theorem eq2 (i j : Int) (x y : Str) : eqD (.tup [.int i, .str x]) (.tup [.int j, .str y]) = decide (i = j ∧ x = y) := by
  simp only [eqD, eqDs, Bool.and_true]
  by_cases h1 : i = j <;> by_cases h2 : x = y <;> simp [h1, h2]
theorem take_get {α : Type} {xs : List α} {i : Nat} {x : α} (h : xs[i]? = some x) : xs.take (i + 1) = xs.take i ++ [x] := by rw [List.take_add_one, h]; rfl

def inR (n : Nat) (i : Int) : Prop := 0 ≤ i ∧ i < n
instance (n : Nat) (i : Int) : Decidable (inR n i) := inferInstanceAs (Decidable (_ ∧ _))
def catS (ys : List Str) : Str := ys.foldl (· ++ ·) ""
theorem catS_snoc (ys : List Str) (y : Str) : catS (ys ++ [y]) = catS ys ++ y := by unfold catS; rw [List.foldl_append]; rfl
theorem nil_app (x : Str) : ("" : Str) ++ x = x := str_ext (by rw [cl_append]; have e : cl ("" : Str) = [] := by decide +kernel
                                                               rw [e, List.nil_append])
theorem catS_len : ∀ ys : List Str, (catS ys).length = (ys.map (·.length)).sum := fun ys => by
  have go : ∀ (ys : List Str) (a : Str), (ys.foldl (· ++ ·) a).length = a.length + (ys.map (·.length)).sum := by
    intro ys
    induction ys with
    | nil => intro a; simp
    | cons y ys ih => intro a; rw [List.foldl_cons, ih, len_app, List.map_cons, List.sum_cons]; omega
  have := go ys ""
  have e : ("" : Str).length = 0 := rfl
  unfold catS; omega
theorem join_cat (ys : List Str) : Txt.join "" ys = catS ys := by
  have go : ∀ (ys : List Str) (a : Array Nat), (⟨ys.foldl (fun acc p => acc ++ ("" : Str).cps ++ p.cps) a⟩ : Str) = ys.foldl (· ++ ·) ⟨a⟩ := by
    intro ys
    induction ys with
    | nil => intro a; rfl
    | cons y ys ih =>
      intro a
      rw [List.foldl_cons, List.foldl_cons, ih]
      have e : (⟨a ++ ("" : Str).cps ++ y.cps⟩ : Str) = ⟨a⟩ ++ y := str_ext (by
        show (a ++ ("" : Str).cps ++ y.cps).toList = cl (⟨a⟩ ++ y)
        rw [cl_append, Array.toList_append, Array.toList_append]
        have z : ("" : Str).cps.toList = [] := by decide +kernel
        rw [z, List.append_nil])
      rw [e]
  cases ys with
  | nil => rfl
  | cons y ys =>
    show (⟨ys.foldl (fun acc p => acc ++ ("" : Str).cps ++ p.cps) y.cps⟩ : Str) = _
    rw [go]
    unfold catS
    rw [List.foldl_cons, nil_app]
def Short (s : Scr) : Prop := (∀ m ∈ s.begins, m.2.length ≤ 100) ∧ (∀ t ∈ s.steps, t.2.1.length ≤ 100 ∧ t.2.2.1.length ≤ 100) ∧ ∀ m ∈ s.ends, m.2.length ≤ 100
def spKinds (K : PySem.W.Frag) (c : Addr) (bs : List Bool) : Sp := fun vs H Q _ => ∃ v, vs = [v] ∧ ((v = .non ∧ ∀ p H', Same H H' → H' p = some (.lst []) → Q (.ref p) H') ∨ ∃ x, v = .ref x ∧ H x = some (Exc x c) ∧ ∀ p H', Same H H' → H' p = some (.lst (bs.map V.bl)) → Q (.ref p) H')
theorem reps_bl {K : PySem.W.Frag} {H : Hp} (bs : List Bool) : Reps K H (bs.map D.bl) (bs.map V.bl) := Reps.map D.bl V.bl (fun b => rep_bl b) bs
theorem deeps_bl (bs : List Bool) : deeps (bs.map D.bl) ≤ 0 := deeps_map D.bl 0 (fun _ => by simp [deep]) bs
theorem bt_ValueError : bootBuiltins "ValueError" = some (.type "ValueError") := by decide +kernel

def GT (H H' : Hp) : Prop := ∀ b xs, Rd H b (.tup xs) → Rd H' b (.tup xs)
theorem GT.trans {H H' H'' : Hp} (a : GT H H') (b : GT H' H'') : GT H H'' := fun c xs h => b c xs (a c xs h)
theorem GT.of {H H' : Hp} (g : Same H H') : GT H H' := fun b xs h => by
  rcases h with h | ⟨o, h⟩
  · exact .inl (g _ _ h)
  · exact .inr ⟨o, g _ _ h⟩
theorem gt_upd {H : Hp} {p : Addr} {o : HO} (h : H p = some o) (n1 : ∀ xs, o ≠ .tup xs) (n2 : ∀ u xs, o ≠ .frz u (.tup xs)) (o' : HO) : GT H (upd H p o') := fun b xs q => by
  have hne : b ≠ p := by
    rintro rfl
    rcases q with q | ⟨u, q⟩
    · rw [h] at q; exact n1 xs (Option.some.inj q)
    · rw [h] at q; exact n2 u xs (Option.some.inj q)
  unfold Rd
  rw [upd_ne hne]
  exact q
theorem gt_lst {H : Hp} {p : Addr} {xs : List V} (h : H p = some (.lst xs)) (o' : HO) : GT H (upd H p o') := gt_upd h (fun _ z => nomatch z) (fun _ _ z => nomatch z) o'
theorem GT.seqT {K : PySem.W.Frag} {H H' : Hp} {a : Addr} {xs : List V} (g : GT H H') (h : SqT K H a xs) : SqT K H' a xs := by
  rcases h with h | h
  · exact .inl (g _ _ h)
  · exact .inr h
theorem StV.gt {K : PySem.W.Frag} {H H' : Hp} {m : Stp} {v : V} (g : GT H H') : StV K H m v → StV K H' m v := fun ⟨b, e, h⟩ => ⟨b, e, g.seqT h⟩
theorem stv_gt (K : PySem.W.Frag) (H H' : Hp) (t : Stp) (v : V) (g : GT H H') (h : StV K H t v) : StV K H' t v := StV.gt g h
structure Bk {κ α : Type} [DecidableEq κ] (R : Hp → α → V → Prop) (key : α → κ) (H0 H : Hp) (d : Addr) (ts : List α) (kvs : List (κ × V)) : Prop where
  there : ∀ k v, valV kvs k = some v → ∃ l ys, v = .ref l ∧ H0 l = none ∧ l ≠ d ∧ H l = some (.lst ys) ∧ Paired (R H) (ts.filter fun t => decide (key t = k)) ys ∧ 0 < ys.length
  nokey : ∀ k, valV kvs k = none → ts.filter (fun t => decide (key t = k)) = []
  inj : ∀ k k' l, valV kvs k = some (.ref l) → valV kvs k' = some (.ref l) → k = k'
  len : kvs.length ≤ ts.length
theorem filter_snoc {α : Type} (p : α → Bool) (xs : List α) (x : α) : (xs ++ [x]).filter p = xs.filter p ++ if p x = true then [x] else [] := by
  rw [List.filter_append]
  congr 1
  by_cases h : p x = true
  · rw [if_pos h, List.filter_cons_of_pos h]; rfl
  · rw [if_neg h, List.filter_cons_of_neg h]; rfl
section
variable {κ α : Type} [DecidableEq κ] {R : Hp → α → V → Prop} {key : α → κ} {H0 H : Hp} {d : Addr} {ts : List α} {kvs : List (κ × V)}
theorem Bk.nil : Bk R key H0 H d [] ([] : List (κ × V)) := ⟨fun k v h => (by cases h), fun _ _ => rfl, fun k k' l h => (by cases h), Nat.le_refl _⟩
theorem Bk.mono {H' : Hp} (mono : ∀ (H H' : Hp) (t : α) (v : V), GT H H' → R H t v → R H' t v) (b : Bk R key H0 H d ts kvs) (g : Same H H') : Bk R key H0 H' d ts kvs :=
  ⟨fun k v h => let ⟨l, ys, e, h1, h2, h3, h4, h5⟩ := b.there k v h; ⟨l, ys, e, h1, h2, g _ _ h3, paired_mono (fun _ _ => mono _ _ _ _ (GT.of g)) h4, h5⟩, b.nokey, b.inj, b.len⟩
theorem Bk.put (mono : ∀ (H H' : Hp) (t : α) (v : V), GT H H' → R H t v → R H' t v) (b : Bk R key H0 H d ts kvs) {t : α} {y : V} {l : Addr} {ys : List V} (hv : valV kvs (key t) = some (.ref l)) (hl : H l = some (.lst ys)) (hy : R H t y) :
    Bk R key H0 (upd H l (.lst (ys ++ [y]))) d (ts ++ [t]) kvs := by
  have gr := gt_lst hl (.lst (ys ++ [y]))
  refine ⟨fun k v h => ?_, fun k h => ?_, b.inj, by rw [List.length_append]; exact Nat.le_add_right_of_le b.len⟩
  · obtain ⟨l', ys', rfl, h1, h2, h3, h4, h5⟩ := b.there k v h
    rw [filter_snoc]
    by_cases hk : key t = k
    · subst hk
      rw [hv] at h; cases h
      rw [hl] at h3; cases h3
      rw [if_pos (by simp)]
      exact ⟨l, ys ++ [y], rfl, h1, h2, upd_same, paired_append (paired_mono (fun _ _ => mono _ _ _ _ gr) h4) (.cons (mono _ _ _ _ gr hy) .nil), by rw [List.length_append]; omega⟩
    · have hne : l' ≠ l := fun e => hk (b.inj _ _ l hv (e ▸ h))
      rw [if_neg (by simpa using hk), List.append_nil]
      exact ⟨l', ys', rfl, h1, h2, by rw [upd_ne hne]; exact h3, paired_mono (fun _ _ => mono _ _ _ _ gr) h4, h5⟩
  · rw [filter_snoc, b.nokey k h]
    by_cases hk : key t = k
    · subst hk; rw [hv] at h; cases h
    · rw [if_neg (by simpa using hk)]; rfl
theorem Bk.new (mono : ∀ (H H' : Hp) (t : α) (v : V), GT H H' → R H t v → R H' t v) (b : Bk R key H0 H d ts kvs) {t : α} {y : V} {p : Addr} {o od : HO} (hv : valV kvs (key t) = none) (hp0 : H0 p = none) (hpd : p ≠ d) (hd : H d = some od) (n1 : ∀ xs, od ≠ .tup xs) (n2 : ∀ u xs, od ≠ .frz u (.tup xs)) (hpn : ∀ k, valV kvs k ≠ some (.ref p)) (hp : H p = some (.lst [])) (hy : R H t y) :
    Bk R key H0 (upd (upd H d o) p (.lst [y])) d (ts ++ [t]) (putK kvs (key t) (.ref p)) := by
  have g1 := gt_upd hd n1 n2 o
  have hp1 : upd H d o p = some (.lst []) := by rw [upd_ne hpd]; exact hp
  have gr := g1.trans (gt_lst hp1 (.lst [y]))
  refine ⟨fun k v h => ?_, fun k h => ?_, fun k k' l h h' => ?_, ?_⟩
  · rw [valV_put] at h
    rw [filter_snoc]
    by_cases hk : k = key t
    · subst hk
      rw [if_pos rfl] at h; cases h
      rw [if_pos (by simp), b.nokey _ hv]
      exact ⟨p, [y], rfl, hp0, hpd, upd_same, .cons (mono _ _ _ _ gr hy) .nil, Nat.zero_lt_one⟩
    · rw [if_neg hk] at h
      obtain ⟨l', ys', rfl, h1, h2, h3, h4, h5⟩ := b.there k v h
      have hne : l' ≠ p := fun e => hpn k (e ▸ h)
      rw [if_neg (by simpa using fun e => hk (Eq.symm e)), List.append_nil]
      exact ⟨l', ys', rfl, h1, h2, by rw [upd_ne hne, upd_ne h2]; exact h3, paired_mono (fun _ _ => mono _ _ _ _ gr) h4, h5⟩
  · rw [valV_put] at h
    by_cases hk : k = key t
    · rw [if_pos hk] at h; cases h
    · rw [if_neg hk] at h
      rw [filter_snoc, b.nokey k h, if_neg (by simpa using fun e => hk (Eq.symm e))]; rfl
  · rw [valV_put] at h h'
    by_cases hk : k = key t
    · rw [if_pos hk] at h; cases h
      by_cases hk' : k' = key t
      · rw [hk, hk']
      · rw [if_neg hk'] at h'; exact absurd h' (hpn k')
    · rw [if_neg hk] at h
      by_cases hk' : k' = key t
      · rw [if_pos hk'] at h'; cases h'; exact absurd h (hpn k)
      · rw [if_neg hk'] at h'; exact b.inj k k' l h h'
  · have h1 := length_putK kvs (key t) (.ref p)
    have h2 := b.len
    rw [List.length_append, List.length_singleton]; omega
end
def stKey (t : Stp) : List Key := [Sum.inl t.1, Sum.inr t.2.1]
def mkKey (m : Mk) : Key := Sum.inl m.1
def WdV (_ : Hp) (m : Mk) (v : V) : Prop := v = .str m.2
def StepD (K : PySem.W.Frag) (H0 H : Hp) (ts : List Stp) (v : V) : Prop := ∃ d kvs, v = .ref d ∧ H d = some (.dT kvs) ∧ Bk (StV K) stKey H0 H d ts kvs
def EndD (H0 H : Hp) (ms : List Mk) (v : V) : Prop := ∃ d kvs, v = .ref d ∧ H d = some (.dK kvs) ∧ Bk WdV mkKey H0 H d ms kvs
theorem StepD.mono {K : PySem.W.Frag} {H0 H H' : Hp} {ts : List Stp} {v : V} (g : Same H H') : StepD K H0 H ts v → StepD K H0 H' ts v := fun ⟨d, kvs, e, h, b⟩ => ⟨d, kvs, e, g _ _ h, b.mono (stv_gt K) g⟩
theorem EndD.mono {H0 H H' : Hp} {ts : List Mk} {v : V} (g : Same H H') : EndD H0 H ts v → EndD H0 H' ts v := fun ⟨d, kvs, e, h, b⟩ => ⟨d, kvs, e, g _ _ h, b.mono (fun _ _ _ _ _ h => h) g⟩
def spSteps (K : PySem.W.Frag) : Sp := fun vs H Q _ => ∃ v s pb ps pe, vs = [v] ∧ ScV K H s v pb ps pe ∧ s.steps.length ≤ 999 ∧ ∀ v' H', Same H H' → StepD K H H' s.steps v' → Q v' H'
def spEnds (K : PySem.W.Frag) : Sp := fun vs H Q _ => ∃ v s pb ps pe, vs = [v] ∧ ScV K H s v pb ps pe ∧ s.ends.length ≤ 999 ∧ ∀ v' H', Same H H' → EndD H H' s.ends v' → Q v' H'

def spRefuse (K : PySem.W.Frag) (c : Addr) : Sp := fun vs H Q E => ∃ p n, vs = [.ref p] ∧ ((∃ ys, SqL K H p ys ∧ n = ys.length) ∨ DLen H p n) ∧ (n ≤ 1000 → Q .non H) ∧ (1000 < n → E (.ref c) none H)

def optV : Option Str → V
  | none => .non
  | some x => .str x
def nextM (s : Scr) (c : Int × Str) (k : Nat) : Option (Int × Str) := match s.steps.filter (fun t => decide (stKey t = [Sum.inl c.1, Sum.inr (⟨#[k]⟩ : Str)])) with
  | [] => none
  | t :: _ => some (t.2.2.2, c.2 ++ t.2.2.1)
def goM (s : Scr) (c : Int × Str) (ks : List Nat) : Option (Int × Str) := ks.foldl (fun o k => o.bind fun c => nextM s c k) (some c)
def lastM (s : Scr) (c : Int × Str) : Option Str := match s.ends.filter (fun m => decide (mkKey m = Sum.inl c.1)) with
  | [] => none
  | m :: _ => some (c.2 ++ m.2)
def runM (s : Scr) (x : Str) : Option Str := match s.begins with
  | [] => none
  | m :: _ => (goM s m (cl x)).bind (lastM s)
theorem go_none (s : Scr) : ∀ ks : List Nat, ks.foldl (fun o k => o.bind fun c => nextM s c k) none = none
  | [] => rfl
  | _ :: ks => go_none s ks
theorem go_take {s : Scr} {c : Int × Str} {ks : List Nat} {i : Nat} {k : Nat} (h : ks[i]? = some k) : goM s c (ks.take (i + 1)) = (goM s c (ks.take i)).bind fun c => nextM s c k := by
  unfold goM
  rw [take_get h, List.foldl_append]; rfl
theorem go_cut {s : Scr} {c : Int × Str} {ks : List Nat} {i : Nat} (h : goM s c (ks.take i) = none) : goM s c ks = none := by
  have e : ks = ks.take i ++ ks.drop i := (List.take_append_drop i ks).symm
  unfold goM at *
  rw [e, List.foldl_append, h, go_none]
theorem Paired.head {α β : Type} {F : α → β → Prop} {l : List α} {m : List β} (h : Paired F l m) (n : 0 < m.length) : ∃ a l' b m', l = a :: l' ∧ m = b :: m' ∧ F a b := by
  cases h with
  | nil => cases n
  | cons r t => exact ⟨_, _, _, _, rfl, rfl, r⟩
theorem StepD.get {K : PySem.W.Frag} {H0 H : Hp} {ts : List Stp} {v : V} {r : Int} {g : Str} {p : Addr} (h : StepD K H0 H ts v) (hp : H p = some (.tup [V.int r, V.str g])) :
    ∃ d o, v = .ref d ∧ DGet H d (.ref p) o ∧ (o = none → ts.filter (fun t => decide (stKey t = [Sum.inl r, Sum.inr g])) = []) ∧
      ∀ u, o = some u → ∃ l t l' y ys, u = .ref l ∧ H l = some (.lst (y :: ys)) ∧ ts.filter (fun t => decide (stKey t = [Sum.inl r, Sum.inr g])) = t :: l' ∧ Paired (StV K H) (t :: l') (y :: ys) := by
  obtain ⟨d, kvs, rfl, hd, bk⟩ := h
  refine ⟨d, valV kvs [Sum.inl r, Sum.inr g], rfl, DGet.t (k := [Sum.inl r, Sum.inr g]) hd hp, fun z => bk.nokey _ z, fun u hu => ?_⟩
  obtain ⟨l, ys, rfl, _, _, h3, h4, h5⟩ := bk.there _ _ hu
  obtain ⟨t, l', y, ys', e1, rfl, _⟩ := Paired.head h4 h5
  rw [e1] at h4
  exact ⟨l, t, l', y, ys', rfl, h3, e1, h4⟩
theorem EndD.get {H0 H : Hp} {ms : List Mk} {v : V} {r : Int} (h : EndD H0 H ms v) :
    ∃ d o, v = .ref d ∧ DGet H d (.int r) o ∧ (o = none → ms.filter (fun t => decide (mkKey t = Sum.inl r)) = []) ∧
      ∀ u, o = some u → ∃ l t l' y ys, u = .ref l ∧ H l = some (.lst (y :: ys)) ∧ ms.filter (fun t => decide (mkKey t = Sum.inl r)) = t :: l' ∧ Paired (WdV H) (t :: l') (y :: ys) := by
  obtain ⟨d, kvs, rfl, hd, bk⟩ := h
  refine ⟨d, valV kvs (Sum.inl r), rfl, DGet.k (k := Sum.inl r) hd, fun z => bk.nokey _ z, fun u hu => ?_⟩
  obtain ⟨l, ys, rfl, _, _, h3, h4, h5⟩ := bk.there _ _ hu
  obtain ⟨t, l', y, ys', e1, rfl, _⟩ := Paired.head h4 h5
  rw [e1] at h4
  exact ⟨l, t, l', y, ys', rfl, h3, e1, h4⟩
def Lens (s : Scr) : Prop := s.begins.length ≤ 999 ∧ s.steps.length ≤ 999 ∧ s.ends.length ≤ 999
def spWritten (K : PySem.W.Frag) (c : Addr) : Sp := fun vs H Q E => ∃ v s pb ps pe x, vs = [v, .str x] ∧ ScV K H s v pb ps pe ∧ Lens s ∧ Short s ∧ x.length ≤ 100 ∧
  (plainB s = true → ∀ H', Same H H' → Q (optV (runM s x)) H') ∧ (plainB s = false → ∀ H', Same H H' → E (.ref c) none H')
def spChoices (K : PySem.W.Frag) (c : Addr) : Sp := fun vs H Q E => ∃ v s pb ps pe, vs = [v] ∧ ScV K H s v pb ps pe ∧ s.steps.length ≤ 999 ∧ s.ends.length ≤ 999 ∧ (plainB s = true → ∀ H', Same H H' → Q .non H') ∧ (plainB s = false → ∀ H', Same H H' → E (.ref c) none H')
theorem mem_filter_of {α : Type} {p : α → Bool} {xs : List α} {t : α} {l : List α} (h : xs.filter p = t :: l) : t ∈ xs := (List.mem_filter.mp (h ▸ List.mem_cons_self ..)).1

def addM {α : Type} [DecidableEq α] (acc : List α) (m : α) : List α := if m ∈ acc then acc else acc ++ [m]
def onceM {α : Type} [DecidableEq α] (xs : List α) : List α := xs.foldl addM []
theorem once_snoc {α : Type} [DecidableEq α] (xs : List α) (x : α) : onceM (xs ++ [x]) = addM (onceM xs) x := by unfold onceM; rw [List.foldl_append]; rfl
theorem add_le {α : Type} [DecidableEq α] (acc : List α) (m : α) : acc.length ≤ (addM acc m).length := by
  unfold addM; split
  · exact Nat.le_refl _
  · rw [List.length_append]; omega
theorem fold_le {α : Type} [DecidableEq α] : ∀ (xs acc : List α), acc.length ≤ (xs.foldl addM acc).length
  | [], _ => Nat.le_refl _
  | x :: xs, acc => Nat.le_trans (add_le acc x) (fold_le xs (addM acc x))
theorem once_le {α : Type} [DecidableEq α] (xs ys : List α) : (onceM xs).length ≤ (onceM (xs ++ ys)).length := by
  unfold onceM; rw [List.foldl_append]; exact fold_le _ _
theorem once_len {α : Type} [DecidableEq α] (xs : List α) : (onceM xs).length ≤ xs.length := by
  have go : ∀ (xs acc : List α), (xs.foldl addM acc).length ≤ acc.length + xs.length := by
    intro xs
    induction xs with
    | nil => intro acc; exact Nat.le_refl _
    | cons x xs ih =>
      intro acc
      have h := ih (addM acc x)
      have : (addM acc x).length ≤ acc.length + 1 := by
        unfold addM; split
        · omega
        · rw [List.length_append]; exact Nat.le_refl _
      rw [List.foldl_cons, List.length_cons]; omega
  have := go xs []
  unfold onceM
  simpa using this
theorem put_keys {κ : Type} [DecidableEq κ] (kvs : List (κ × V)) (k : κ) (v : V) : (putK kvs k v).map (·.1) = addM (kvs.map (·.1)) k := by
  have hm : (kvs.any fun kv => decide (kv.1 = k)) = true ↔ k ∈ kvs.map (·.1) := by
    rw [List.any_eq_true, List.mem_map]
    exact ⟨fun ⟨x, h1, h2⟩ => ⟨x, h1, of_decide_eq_true h2⟩, fun ⟨x, h1, h2⟩ => ⟨x, h1, decide_eq_true h2⟩⟩
  unfold putK addM
  by_cases h : k ∈ kvs.map (·.1)
  · rw [if_pos (hm.mpr h), if_pos h, List.map_map]
    refine List.map_congr_left fun x _ => ?_
    show (if x.1 = k then _ else _ : κ × V).1 = x.1
    split
    · rename_i e; first | exact e.symm | rfl
    · rfl
  · rw [if_neg (fun z => h (hm.mp z)), if_neg h, List.map_append]; rfl
theorem add_map {α β : Type} [DecidableEq α] [DecidableEq β] {f : α → β} (inj : ∀ a b, f a = f b → a = b) (acc : List α) (m : α) : (addM acc m).map f = addM (acc.map f) (f m) := by
  have hm : f m ∈ acc.map f ↔ m ∈ acc := by
    rw [List.mem_map]
    exact ⟨fun ⟨x, h1, h2⟩ => inj _ _ h2 ▸ h1, fun h => ⟨m, h, rfl⟩⟩
  unfold addM
  by_cases h : m ∈ acc
  · rw [if_pos h, if_pos (hm.mpr h)]
  · rw [if_neg h, if_neg (fun z => h (hm.mp z)), List.map_append]; rfl
def pKey (m : Mk) : List Key := [Sum.inl m.1, Sum.inr m.2]
theorem pKey_inj (a b : Mk) (h : pKey a = pKey b) : a = b := by
  unfold pKey at h
  injection h with h1 h2
  injection h2 with h2 h3
  injection h1 with h1; injection h2 with h2
  exact Prod.ext h1 h2
def onM (ts : List Stp) (k : Nat) (c : Mk) : List Mk := (ts.filter (fun t => decide (stKey t = [Sum.inl c.1, Sum.inr (⟨#[k]⟩ : Str)]))).map fun t => (t.2.2.2, c.2 ++ t.2.2.1)
def newsM (ts : List Stp) (P : List Mk) (k : Nat) : List Mk := P.flatMap (onM ts k)
def behindM (ts : List Stp) (P : List Mk) (k : Nat) : List Mk := onceM (newsM ts P k)
theorem flat_take {α β : Type} (f : α → List β) {xs : List α} {i : Nat} {x : α} (h : xs[i]? = some x) : (xs.take (i + 1)).flatMap f = (xs.take i).flatMap f ++ f x := by
  rw [take_get h, List.flatMap_append, List.flatMap_singleton]
theorem flat_cut {α β : Type} (f : α → List β) {xs : List α} {i : Nat} {x : α} (h : xs[i]? = some x) : ∃ r, xs.flatMap f = (xs.take i).flatMap f ++ f x ++ r := by
  refine ⟨(xs.drop (i + 1)).flatMap f, ?_⟩
  rw [← flat_take f h, ← List.flatMap_append, List.take_append_drop]
def PrV (K : PySem.W.Frag) (H : Hp) (P : List Mk) (v : V) : Prop := ∃ p xs, v = .ref p ∧ SqL K H p xs ∧ Paired (MkV K H) P xs
theorem PrV.mono {K : PySem.W.Frag} {H H' : Hp} {P : List Mk} {v : V} (g : Same H H') : PrV K H P v → PrV K H' P v := fun ⟨p, xs, e, h, h'⟩ => ⟨p, xs, e, g.seq h, paired_mono (fun _ _ => MkV.mono (Same.grow g)) h'⟩
theorem StepD.get2 {K : PySem.W.Frag} {H0 H : Hp} {ts : List Stp} {v : V} {r : Int} {g : Str} {p l : Addr} (h : StepD K H0 H ts v) (hp : H p = some (.tup [V.int r, V.str g])) (hl : H l = some (.lst [])) :
    ∃ d o la ys, v = .ref d ∧ DGet H d (.ref p) o ∧ o.getD (.ref l) = .ref la ∧ H la = some (.lst ys) ∧ Paired (StV K H) (ts.filter (fun t => decide (stKey t = [Sum.inl r, Sum.inr g]))) ys := by
  obtain ⟨d, o, e, h1, h2, h3⟩ := h.get hp
  cases ho : o with
  | none => exact ⟨d, none, l, [], e, ho ▸ h1, rfl, hl, by rw [h2 ho]; exact .nil⟩
  | some u =>
    obtain ⟨l1, t, l', y, ys, rfl, h4, h5, h6⟩ := h3 u ho
    exact ⟨d, _, l1, y :: ys, e, ho ▸ h1, rfl, h4, by rw [h5]; exact h6⟩
theorem EndD.get2 {H0 H : Hp} {ms : List Mk} {v : V} {r : Int} {l : Addr} (h : EndD H0 H ms v) (hl : H l = some (.lst [])) :
    ∃ d o la ys, v = .ref d ∧ DGet H d (.int r) o ∧ o.getD (.ref l) = .ref la ∧ H la = some (.lst ys) ∧ Paired (WdV H) (ms.filter (fun t => decide (mkKey t = Sum.inl r))) ys := by
  obtain ⟨d, o, e, h1, h2, h3⟩ := h.get (r := r)
  cases ho : o with
  | none => exact ⟨d, none, l, [], e, ho ▸ h1, rfl, hl, by rw [h2 ho]; exact .nil⟩
  | some u =>
    obtain ⟨l1, t, l', y, ys, rfl, h4, h5, h6⟩ := h3 u ho
    exact ⟨d, _, l1, y :: ys, e, ho ▸ h1, rfl, h4, by rw [h5]; exact h6⟩
theorem StepD.ty {K : PySem.W.Frag} {H0 H : Hp} {ts : List Stp} {v : V} (h : StepD K H0 H ts v) : tyV K "dict" v H := by
  obtain ⟨d, kvs, rfl, hd, _⟩ := h
  exact .inr (.inr (.inl ⟨rfl, .inr ⟨kvs, hd⟩⟩))
theorem EndD.ty {K : PySem.W.Frag} {H0 H : Hp} {ts : List Mk} {v : V} (h : EndD H0 H ts v) : tyV K "dict" v H := by
  obtain ⟨d, kvs, rfl, hd, _⟩ := h
  exact .inr (.inr (.inl ⟨rfl, .inl ⟨kvs, hd⟩⟩))
def spPairs (K : PySem.W.Frag) (c : Addr) : Sp := fun vs H Q E => ∃ pv k sv H0 P ts, vs = [pv, .str ⟨#[k]⟩, sv] ∧ PrV K H P pv ∧ StepD K H0 H ts sv ∧ P.length ≤ 1000 ∧ (∀ m ∈ P, m.2.length ≤ 50000) ∧ (∀ t ∈ ts, t.2.2.1.length ≤ 100) ∧
  ((behindM ts P k).length ≤ 1000 → ∀ v' H', Same H H' → PrV K H' (behindM ts P k) v' → Q v' H') ∧ (1000 < (behindM ts P k).length → ∀ H', Same H H' → E (.ref c) none H')
theorem mk_of_keys {K : PySem.W.Frag} {H : Hp} : ∀ {kvs : List (List Key × V)} {bs : List Addr} {ms : List Mk}, Paired (fun (kv : List Key × V) b => H b = some (.tup (kv.1.map kV))) kvs bs → kvs.map (·.1) = ms.map pKey → Paired (MkV K H) ms (bs.map V.ref)
  | [], _, ms, .nil, e => by
    cases ms with
    | nil => exact .nil
    | cons _ _ => cases e
  | kv :: kvs, _, ms, .cons r t, e => by
    cases ms with
    | nil => cases e
    | cons m ms =>
      rw [List.map_cons, List.map_cons] at e
      injection e with e1 e2
      refine .cons ⟨_, rfl, SqT.of ?_⟩ (mk_of_keys t e2)
      rw [r, e1]; rfl

def pairsM (s : Scr) (ks : List Nat) : Option (List Mk) := ks.foldl (fun o k => o.bind fun P => if (behindM s.steps P k).length ≤ 1000 then some (behindM s.steps P k) else none) (some s.begins)
theorem pairs_none (s : Scr) : ∀ ks : List Nat, ks.foldl (fun o k => o.bind fun P => if (behindM s.steps P k).length ≤ 1000 then some (behindM s.steps P k) else none) (none : Option (List Mk)) = none
  | [] => rfl
  | _ :: ks => pairs_none s ks
theorem pairs_take {s : Scr} {ks : List Nat} {i : Nat} {k : Nat} (h : ks[i]? = some k) : pairsM s (ks.take (i + 1)) = (pairsM s (ks.take i)).bind fun P => if (behindM s.steps P k).length ≤ 1000 then some (behindM s.steps P k) else none := by
  unfold pairsM
  rw [take_get h, List.foldl_append]; rfl
theorem pairs_cut {s : Scr} {ks : List Nat} {i : Nat} (h : pairsM s (ks.take i) = none) : pairsM s ks = none := by
  have e : ks = ks.take i ++ ks.drop i := (List.take_append_drop i ks).symm
  unfold pairsM at *
  rw [e, List.foldl_append, h, pairs_none]
def wOnM (s : Scr) (c : Mk) : List Str := (s.ends.filter (fun m => decide (mkKey m = Sum.inl c.1))).map fun m => c.2 ++ m.2
def wordsM (s : Scr) (P : List Mk) : List Str := onceM (P.flatMap (wOnM s))
theorem once_mem {α : Type} [DecidableEq α] {xs : List α} {x : α} (h : x ∈ onceM xs) : x ∈ xs := by
  have go : ∀ (xs acc : List α), x ∈ xs.foldl addM acc → x ∈ acc ∨ x ∈ xs := by
    intro xs
    induction xs with
    | nil => intro acc h; exact .inl h
    | cons y ys ih =>
      intro acc h
      rcases ih _ h with h | h
      · unfold addM at h
        split at h
        · exact .inl h
        · rcases List.mem_append.mp h with h | h
          · exact .inl h
          · exact .inr (by rw [List.mem_singleton.mp h]; exact List.mem_cons_self ..)
      · exact .inr (List.mem_cons_of_mem _ h)
  rcases go xs [] h with h | h
  · cases h
  · exact h
theorem behind_len {s : Scr} {P : List Mk} {k n : Nat} (hs : ∀ t ∈ s.steps, t.2.2.1.length ≤ 100) (h : ∀ m ∈ P, m.2.length ≤ n) : ∀ m ∈ behindM s.steps P k, m.2.length ≤ n + 100 := fun m hm => by
  obtain ⟨c, hc, hm⟩ := List.mem_flatMap.mp (once_mem hm)
  unfold onM at hm
  obtain ⟨t, ht, rfl⟩ := List.mem_map.mp hm
  have h1 := hs t (List.mem_filter.mp ht).1
  have h2 := h c hc
  show (c.2 ++ t.2.2.1).length ≤ n + 100
  rw [len_app]; omega
theorem flat_len {α β : Type} {f : α → List β} {n : Nat} (h : ∀ x, (f x).length ≤ n) : ∀ xs : List α, (xs.flatMap f).length ≤ n * xs.length
  | [] => Nat.zero_le _
  | x :: xs => by
    have h1 := h x
    have h2 := flat_len h xs
    rw [List.flatMap_cons, List.length_append, List.length_cons, Nat.mul_succ]; omega
def spAllW (K : PySem.W.Frag) (c : Addr) : Sp := fun vs H Q E => ∃ v s pb ps pe x, vs = [v, .str x] ∧ ScV K H s v pb ps pe ∧ Lens s ∧ Short s ∧ x.length ≤ 100 ∧ (∀ P, pairsM s (cl x) = some P → (wordsM s P).length < 64) ∧
  (∀ P, pairsM s (cl x) = some P → ∀ l ss H', Same H H' → H l = none → ss.Perm (wordsM s P) → sortedS ss = true → H' l = some (.lst (ss.map V.str)) → Q (.ref l) H') ∧ (pairsM s (cl x) = none → ∀ H', Same H H' → E (.ref c) none H')

theorem str_assoc (a b c : Str) : a ++ b ++ c = a ++ (b ++ c) := str_ext (by rw [cl_append, cl_append, cl_append, cl_append, List.append_assoc])
theorem str_nil (a : Str) : a ++ "" = a := str_ext (by rw [cl_append, show cl ("" : Str) = [] by decide +kernel, List.append_nil])
theorem next_pre (s : Scr) (w : Str) (r : Int) (u : Str) (k : Nat) : nextM s (r, w ++ u) k = (nextM s (r, u) k).map fun c => (c.1, w ++ c.2) := by
  unfold nextM
  show (match s.steps.filter (fun t => decide (stKey t = [Sum.inl r, Sum.inr (⟨#[k]⟩ : Str)])) with | [] => none | t :: _ => some (t.2.2.2, w ++ u ++ t.2.2.1)) = Option.map _ (match s.steps.filter (fun t => decide (stKey t = [Sum.inl r, Sum.inr (⟨#[k]⟩ : Str)])) with | [] => none | t :: _ => some (t.2.2.2, u ++ t.2.2.1))
  cases s.steps.filter (fun t => decide (stKey t = [Sum.inl r, Sum.inr (⟨#[k]⟩ : Str)])) with
  | nil => rfl
  | cons t l => show some (t.2.2.2, w ++ u ++ t.2.2.1) = some (t.2.2.2, w ++ (u ++ t.2.2.1)); rw [str_assoc]
theorem go_pre (s : Scr) (w : Str) : ∀ (ks : List Nat) (o : Option (Int × Str)), ks.foldl (fun o k => o.bind fun c => nextM s c k) (o.map fun c => (c.1, w ++ c.2)) = (ks.foldl (fun o k => o.bind fun c => nextM s c k) o).map fun c => (c.1, w ++ c.2)
  | [], _ => rfl
  | k :: ks, o => by
    rw [List.foldl_cons, List.foldl_cons]
    have e : ((o.map fun c => (c.1, w ++ c.2)).bind fun c => nextM s c k) = (o.bind fun c => nextM s c k).map fun c => (c.1, w ++ c.2) := by
      cases o with
      | none => rfl
      | some c => exact next_pre s w c.1 c.2 k
    rw [e]
    exact go_pre s w ks _
theorem go_from (s : Scr) (m : Mk) (ks : List Nat) : goM s m ks = (goM s (m.1, "") ks).map fun c => (c.1, m.2 ++ c.2) := by
  have h := go_pre s m.2 ks (some (m.1, ""))
  have e : ((some (m.1, ("" : Str))).map fun c : Int × Str => (c.1, m.2 ++ c.2)) = some m := by
    show some (m.1, m.2 ++ "") = some m
    rw [str_nil]
  rw [e] at h
  exact h
def spReadFrom (K : PySem.W.Frag) : Sp := fun vs H Q _ => ∃ vS H0 s, ∃ r0 : Int, ∃ x, vs = [vS, .int r0, .str x] ∧ StepD K H0 H s.steps vS ∧ Short s ∧ x.length ≤ 100 ∧ (goM s (r0, "") (cl x) = none → ∀ H', Same H H' → Q .non H') ∧
  ∀ r u, goM s (r0, "") (cl x) = some (r, u) → u.length ≤ 10000 → ∀ p H', Same H H' → H' p = some (.tup [.int r, .str u]) → Q (.ref p) H'

def outs2 (s : Scr) : List Mk := s.steps.map fun t => (t.1, t.2.1)
theorem nodup_map_iff {α β γ : Type} {f : α → β} {g : α → γ} : ∀ (xs : List α), (∀ a b, f a = f b ↔ g a = g b) → ((xs.map f).Nodup ↔ (xs.map g).Nodup)
  | [], _ => by simp
  | x :: xs, h => by
    rw [List.map_cons, List.map_cons, List.nodup_cons, List.nodup_cons, nodup_map_iff xs h]
    have : f x ∈ xs.map f ↔ g x ∈ xs.map g := by
      rw [List.mem_map, List.mem_map]
      exact ⟨fun ⟨a, h1, h2⟩ => ⟨a, h1, (h a x).mp h2⟩, fun ⟨a, h1, h2⟩ => ⟨a, h1, (h a x).mpr h2⟩⟩
    rw [this]
theorem outs_iff (s : Scr) : (outs s).Nodup ↔ (outs2 s).Nodup := nodup_map_iff s.steps fun a b => by
  constructor
  · intro h
    injection h with h1 h2
    injection h2 with h2 h3
    injection h1 with h1; injection h2 with h2
    rw [h1, h2]
  · intro h
    injection h with h1 h2
    rw [h1, h2]
theorem lasts_iff (s : Scr) : (lasts s).Nodup ↔ (s.ends.map (·.1)).Nodup := nodup_map_iff s.ends fun a b => by
  constructor
  · intro h; injection h
  · intro h; rw [h]
theorem plain_last {s : Scr} (h1 : (outs2 s).Nodup) (h2 : (s.ends.map (·.1)).Nodup) : plainB s = decide (s.begins.length < 2) := by
  unfold plainB
  rw [decide_eq_true ((outs_iff s).mpr h1), decide_eq_true ((lasts_iff s).mpr h2), Bool.and_true, Bool.and_true]
  by_cases h : s.begins.length < 2
  · rw [decide_eq_true h, decide_eq_false (by omega)]; rfl
  · rw [decide_eq_false h, decide_eq_true (by omega)]; rfl
theorem key_iff (t : Stp) (r : Int) (g : Str) : stKey t = [Sum.inl r, Sum.inr g] ↔ t.1 = r ∧ t.2.1 = g := by
  constructor
  · intro h
    injection h with h1 h2
    injection h2 with h2 _
    injection h1 with h1; injection h2 with h2
    exact ⟨h1, h2⟩
  · rintro ⟨rfl, rfl⟩; rfl
theorem mkey_iff (m : Mk) (r : Int) : mkKey m = Sum.inl r ↔ m.1 = r := ⟨fun h => by injection h, fun h => by rw [← h]; rfl⟩
def spRun (K : PySem.W.Frag) : Sp := fun vs H Q _ => ∃ v s pb ps pe x, vs = [v, .str x] ∧ ScV K H s v pb ps pe ∧ Lens s ∧ Short s ∧ x.length ≤ 100 ∧ ∀ H', Same H H' → Q (optV (runM s x)) H'
def spText : Sp := fun vs H Q _ => ∃ (c : Int) (g : Str), vs = [.int c, .str g] ∧ 1 ≤ g.length ∧ g.length ≤ 5 ∧ ∀ y : Str, y.length ≤ 12 → Q (.str y) H
def spAsked (K : PySem.W.Frag) (c : Addr) : Sp := fun vs H Q _ => ∃ v s pb ps pe x, vs = [v, .str x] ∧ ScV K H s v pb ps pe ∧ Lens s ∧ Short s ∧ x.length ≤ 100 ∧
  (plainB s = true → ∀ p H', Same H H' → H' p = some (.tup [optV (runM s x), .non]) → Q (.ref p) H') ∧ (plainB s = false → ∀ p xc H', Same H H' → H' p = some (.tup [.non, .ref xc]) → H' xc = some (Exc xc c) → Q (.ref p) H')
def spLaw (K : PySem.W.Frag) : Sp := fun vs H Q _ => ∃ (a : Addr) (ns : List Int), vs = [.ref a] ∧ SqL K H a (ns.map V.int) ∧ ns.length ≤ 63 ∧ ∀ H', Q (.bl true) H'

theorem filter_one {α β : Type} [DecidableEq β] {f : α → β} (k : β) : ∀ {xs : List α}, (xs.map f).Nodup → (xs.filter fun t => decide (f t = k)).length ≤ 1
  | [], _ => Nat.zero_le _
  | x :: xs, h => by
    rw [List.map_cons, List.nodup_cons] at h
    by_cases c : f x = k
    · have e : (xs.filter fun t => decide (f t = k)) = [] := List.filter_eq_nil_iff.mpr fun t ht z => h.1 (by
        rw [c, ← of_decide_eq_true z]; exact List.mem_map_of_mem ht)
      rw [List.filter_cons_of_pos (by simpa using c), e]
      exact Nat.le_refl _
    · rw [List.filter_cons_of_neg (by simpa using c)]
      exact filter_one k h.2
theorem plain_of {s : Scr} {n : Nat} (ok : OkS true s n) : plainB s = true := by
  rw [plain_last (ok.po rfl) (ok.pe rfl)]
  exact decide_eq_true (Nat.lt_succ_of_le (ok.pb rfl))
theorem short_of {pl : Bool} {s : Scr} {n : Nat} (ok : OkS pl s n) : Short s := ⟨fun m hm => Nat.le_trans (ok.mb m hm).2.2.1 (by decide), fun t ht => ⟨by
  obtain ⟨c, _, e⟩ := (ok.ms t ht).2.2.1
  rw [e, one_len]; decide, Nat.le_trans (ok.ms t ht).2.2.2.1.1 (by decide)⟩, fun m hm => Nat.le_trans (ok.me m hm).2.2.1 (by decide)⟩
theorem lens_of {pl : Bool} {s : Scr} (ok : OkS pl s 95) : Lens s := ⟨Nat.le_trans ok.lb (by decide), Nat.le_trans ok.ls (by decide), Nat.le_trans ok.le (by decide)⟩
theorem behind_plain {s : Scr} (h : (outs s).Nodup) (o : Option (Int × Str)) (k : Nat) : behindM s.steps o.toList k = (o.bind fun c => nextM s c k).toList := by
  cases o with
  | none => rfl
  | some c =>
    have h1 := filter_one (f := stKey) [Sum.inl c.1, Sum.inr (⟨#[k]⟩ : Str)] h
    show onceM ([c].flatMap (onM s.steps k)) = (nextM s c k).toList
    rw [List.flatMap_singleton]
    unfold onM nextM
    cases hf : (s.steps.filter fun t => decide (stKey t = [Sum.inl c.1, Sum.inr (⟨#[k]⟩ : Str)])) with
    | nil => rfl
    | cons t l =>
      rw [hf, List.length_cons] at h1
      have : l = [] := List.eq_nil_of_length_eq_zero (by omega)
      subst this
      rfl
theorem words_plain {s : Scr} (h : (lasts s).Nodup) (o : Option (Int × Str)) : wordsM s o.toList = (o.bind (lastM s)).toList := by
  cases o with
  | none => rfl
  | some c =>
    have h1 := filter_one (f := mkKey) (Sum.inl c.1) h
    show onceM ([c].flatMap (wOnM s)) = (lastM s c).toList
    rw [List.flatMap_singleton]
    unfold wOnM lastM
    cases hf : (s.ends.filter fun m => decide (mkKey m = Sum.inl c.1)) with
    | nil => rfl
    | cons t l =>
      rw [hf, List.length_cons] at h1
      have : l = [] := List.eq_nil_of_length_eq_zero (by omega)
      subst this
      rfl
theorem opt_len {α : Type} (o : Option α) : o.toList.length ≤ 1 := by cases o <;> simp
theorem pairs_plain {s : Scr} (h : (outs s).Nodup) (ks : List Nat) (o : Option (Int × Str)) :
    ks.foldl (fun o k => o.bind fun P => if (behindM s.steps P k).length ≤ 1000 then some (behindM s.steps P k) else none) (some o.toList) = some ((ks.foldl (fun o k => o.bind fun c => nextM s c k) o).toList) := by
  induction ks generalizing o with
  | nil => rfl
  | cons k ks ih =>
    rw [List.foldl_cons, List.foldl_cons, Option.bind_some, behind_plain h, if_pos (Nat.le_trans (opt_len _) (by decide))]
    exact ih _
theorem all_plain {s : Scr} {n : Nat} (ok : OkS true s n) (x : Str) : ∃ P, pairsM s (cl x) = some P ∧ wordsM s P = (runM s x).toList := by
  have h1 : (outs s).Nodup := (outs_iff s).mpr (ok.po rfl)
  have h2 : (lasts s).Nodup := (lasts_iff s).mpr (ok.pe rfl)
  have h3 := ok.pb rfl
  unfold pairsM runM
  cases hb : s.begins with
  | nil =>
    refine ⟨_, pairs_plain h1 (cl x) none, ?_⟩
    rw [words_plain h2]
    show (((cl x).foldl (fun o k => o.bind fun c => nextM s c k) none).bind (lastM s)).toList = []
    rw [go_none]; rfl
  | cons m rest =>
    rw [hb, List.length_cons] at h3
    have : rest = [] := List.eq_nil_of_length_eq_zero (by omega)
    subst this
    refine ⟨_, pairs_plain h1 (cl x) (some m), ?_⟩
    rw [words_plain h2]
    rfl
theorem perm_opt {o : Option Str} {ss : List Str} (h : ss.Perm o.toList) : ss = o.toList := by
  cases o with
  | none => exact List.perm_nil.mp h
  | some y => exact List.perm_singleton.mp h
def dOpt : Option Str → D
  | none => .non
  | some x => .str x
theorem rep_opt {K : PySem.W.Frag} {H : Hp} (o : Option Str) : Rep K H (dOpt o) (optV o) := by
  cases o with
  | none => exact rep_non
  | some x => exact rep_str x

section
variable {P : Program} {w : World} {K : PySem.W.Frag} {mg : Str → Option Value} {base : Heap}
theorem sc_all_unlike : FnScope ["parts"] ["parts"] (defScope s_all_unlike) := ⟨rfl, rfl, rfl, by decide +kernel, rfl, by decide +kernel, by decide +kernel⟩
theorem ok_all_unlike (B : Bi mg) {c_ScribeError c_NoWay c_NoRoom c_NotPlain c_OtherSigns c_TooMany c_TwoWays c_NeverPlain c_NoText : Addr} (XB : Xb K mg c_ScribeError c_NoWay c_NoRoom c_NotPlain c_OtherSigns c_TooMany c_TwoWays c_NeverPlain c_NoText)  {f : Addr} {fd : FuncData} (F : Fun K "all_unlike" "all_unlike" s_all_unlike f fd) : FnOk P w K mg base CX0 1 f fd ["parts"] (spUnlike K) := by
  refine F.ok sc_all_unlike (fun vs H Q E h => ?_) (fun cdv A outer s H vs Q E hr h => ?_)
  · obtain ⟨p, rfl, _⟩ := h; rfl
  obtain ⟨p, rfl, h⟩ := h
  refine ⟨_, (pss_one (ps_ret (pe_cmpR op_eq (pe_callB call_len_set (by rfl) B.len bt_len (pa_cons (pe_callTy (call_set hr (by rfl)) (by rfl) B.set bt_set (pa_cons (pv 0) pa_nil)) pa_nil)) (pe_callB (kLen (K := K)) (by rfl) B.len bt_len (pa_cons (pv 0) pa_nil)) (nomark _)))), ?_⟩
  rcases h with ⟨ys, ks, hS, hP, hl, q⟩ | ⟨ks, hS, hl, q⟩
  · have hle := ndist_le ks.reverse
    rw [List.length_reverse] at hle
    refine ⟨_, rfl, .inl ⟨_, ys, ks, rfl, hS, hP, hl, fun d hd => ?_⟩⟩
    refine ⟨_, _, rfl, upd_same, by omega, _, rfl, p, ys, rfl, .inl ((same_new hd _).seq hS), rfl, ?_⟩
    have e : decide (V.int ((ndist ks.reverse : Nat) : Int) = V.int (ys.length : Int)) = decide ks.Nodup := by rw [nd_int, ← hP.length, nodup_dec]
    show Q (.bl (decide (V.int ((ndist ks.reverse : Nat) : Int) = V.int (ys.length : Int)))) _
    rw [e]
    exact q _ (same_new hd _)
  · have hle := ndist_le ks.reverse
    rw [List.length_reverse] at hle
    refine ⟨_, rfl, .inr ⟨_, ks, rfl, hS, hl, fun d hd => ?_⟩⟩
    refine ⟨_, _, rfl, upd_same, by omega, _, rfl, p, _, rfl, .inl ((same_new hd _).seq hS), rfl, ?_⟩
    have e : decide (V.int ((ndist ks.reverse : Nat) : Int) = V.int ((ks.map kV).length : Int)) = decide ks.Nodup := by rw [nd_int, List.length_map, nodup_dec]
    show Q (.bl (decide (V.int ((ndist ks.reverse : Nat) : Int) = V.int ((ks.map kV).length : Int)))) _
    rw [e]
    exact q _ (same_new hd _)

theorem sc_is_plain : FnScope ["scribe"] ["scribe"] (defScope s_is_plain) := ⟨rfl, rfl, rfl, by decide +kernel, rfl, by decide +kernel, by decide +kernel⟩
theorem ok_is_plain (B : Bi mg) {c_ScribeError c_NoWay c_NoRoom c_NotPlain c_OtherSigns c_TooMany c_TwoWays c_NeverPlain c_NoText : Addr} (XB : Xb K mg c_ScribeError c_NoWay c_NoRoom c_NotPlain c_OtherSigns c_TooMany c_TwoWays c_NeverPlain c_NoText) (C_all_unlike : Cal P w K mg base "all_unlike" ["parts"] 1 (spUnlike K)) {f : Addr} {fd : FuncData} (F : Fun K "is_plain" "is_plain" s_is_plain f fd) : FnOk P w K mg base CX0 2 f fd ["scribe"] (spPlain K) := by
  refine F.ok sc_is_plain (fun vs H Q E h => ?_) (fun cdv A outer s H vs Q E hr h => ?_)
  · obtain ⟨v, s, pb, ps, pe, rfl, _⟩ := h; rfl
  obtain ⟨v, s, pb, ps, pe, rfl, hV, hs, he, q⟩ := h
  refine ⟨_, (pss_cons (ps_if (pt_cmpR op_gt (pe_callB (kLen (K := K)) (by rfl) B.len bt_len (pa_cons (pe_ix (kIx (K := K) rIxT ix_tup) (pv 0) (pe_globI (by rfl) B.BEGINS) (by intro _ _; rfl)) pa_nil)) pe_int (nomark _)) (pss_one (ps_ret pe_bl)) pss_nil)
      (pss_cons (ps_if (pt_not (pt_val (pe_fn C_all_unlike hr (by decide : 1 ≤ 1) (by rfl) (pa_cons (pe_comp rfl (blk_mk (N' := ["step"]) (js := [none]) rfl (by decide +kernel) rfl (by decide +kernel) rfl rfl) (kPI (K := K) (fun k => iList k _) (pi_list (pe_ix (kIx (K := K) rIxT ix_tup) (pv 0) (pe_globI (by rfl) B.STEPS) (by intro _ _; rfl)))) (fun _ _ _ _ _ => (pg_name (i := 0) (show List.Nodup (["step"] : List Str) by decide +kernel) rfl (Or.inl rfl))) (fun _ _ _ _ _ => pf_nil) (fun _ _ _ _ _ => (pe_tup (pa_cons (pe_ix (kIx (K := K) rIxT ix_tup) (pv 0) pe_int (by intro _ _; rfl)) (pa_cons (pe_ix (kIx (K := K) rIxT ix_tup) (pv 0) pe_int (by intro _ _; rfl)) pa_nil))))) pa_nil)))) (pss_one (ps_ret pe_bl)) pss_nil)
      (pss_one (ps_ret (pe_fn C_all_unlike hr (by decide : 1 ≤ 1) (by rfl) (pa_cons (pe_comp rfl (blk_mk (N' := ["end"]) (js := [none]) rfl (by decide +kernel) rfl (by decide +kernel) rfl rfl) (kPI (K := K) (fun k => iList k _) (pi_list (pe_ix (kIx (K := K) rIxT ix_tup) (pv 0) (pe_globI (by rfl) B.ENDS) (by intro _ _; rfl)))) (fun _ _ _ _ _ => (pg_name (i := 0) (show List.Nodup (["end"] : List Str) by decide +kernel) rfl (Or.inl rfl))) (fun _ _ _ _ _ => pf_nil) (fun _ _ _ _ _ => (pe_ix (kIx (K := K) rIxT ix_tup) (pv 0) pe_int (by intro _ _; rfl)))) pa_nil)))))), ?_⟩
  obtain ⟨a, xb, xs, xe, rfl, h1, h2, h3, h4, h5, h6, h7⟩ := hV
  have l5 : s.begins.length = xb.length := h5.length
  refine ⟨_, rfl, _, _, _, _, rfl, rfl, h1, rfl, _, _, rfl, .inl h2, _, _, rfl, rfl, _, rfl, ?_⟩
  refine iteDd (fun c => ?_) (fun c => ?_)
  · have e : plainB s = false := by
      unfold plainB
      rw [decide_eq_true (show s.begins.length > 1 by omega)]; rfl
    have q' := q H (Same.refl H)
    rw [e] at q'
    exact q'
  have lo : (outs s).length = xs.length := by unfold outs; rw [List.length_map]; exact h6.length
  refine ⟨_, rfl, _, _, _, _, rfl, rfl, h1, rfl, ps, rfl, ⟨xs, h3⟩, ?_⟩
  refine comp_list (xs := xs) (fun i ys τ H' => Same H H' ∧ (∃ x, τ = [x]) ∧ i ≤ 999 ∧ ys.length = i ∧ Paired (KeyV K H') ((outs s).take i) ys) ⟨Same.refl H, ⟨_, rfl⟩, Nat.zero_le _, rfl, .nil⟩ (fun i ys τ H' z => z.1.seq h3) ?_ ?_
  · rintro i x ys τ H' hx ⟨g, ⟨y, rfl⟩, hi, hy, hP⟩
    obtain ⟨t, ht, b, rfl, hb⟩ := paired_get h6 hx
    have hb' := (Same.grow g).seqT hb
    have hil : i < xs.length := (List.getElem?_eq_some_iff.mp hx).1
    have hsl : s.steps.length = xs.length := h6.length
    refine ⟨_, rfl, _, _, _, _, rfl, rfl, hb', rfl, _, rfl, _, _, _, _, rfl, rfl, hb', rfl, (by show 2 ≤ sizeLine; decide), fun p hp => ⟨szl' (by omega), g.trans (same_new hp _), ⟨_, rfl⟩, by omega, by rw [List.length_append]; show ys.length + 1 = i + 1; omega, ?_⟩⟩
    have e : (outs s).take (i + 1) = (outs s).take i ++ [[Sum.inl t.1, Sum.inr t.2.1]] := by
      have : (outs s)[i]? = some [Sum.inl t.1, Sum.inr t.2.1] := by unfold outs; rw [List.getElem?_map, ht]; rfl
      rw [List.take_add_one, this]; rfl
    rw [e]
    exact paired_append (paired_mono (fun _ _ => KeyV.mono (grow_new hp _)) hP) (.cons ⟨p, rfl, SqT.of upd_same⟩ .nil)
  rintro ys τ H1 ⟨g1, _, _, hy1, hP1⟩ p hp
  rw [← lo, List.take_length] at hP1
  refine ⟨p, rfl, .inl ⟨ys, outs s, SqL.of upd_same, paired_mono (fun _ _ => KeyV.mono (grow_new hp _)) hP1, by omega, fun H2 g2 => ?_⟩⟩
  have g := (g1.trans (same_new hp _)).trans g2
  refine ⟨_, rfl, ?_⟩
  refine iteNd (fun c2 => ?_) (fun c2 => ?_)
  · have e : plainB s = false := by
      unfold plainB
      rw [decide_eq_false c2, Bool.and_false, Bool.false_and]
    have q' := q H2 g
    rw [e] at q'
    exact q'
  have h1' := Same.seqT g h1
  have h4' := g.seq h4
  have h7' : Paired (MkV K H2) s.ends xe := paired_mono (fun _ _ => MkV.mono (Same.grow g)) h7
  have le : (lasts s).length = xe.length := by unfold lasts; rw [List.length_map]; exact h7.length
  refine ⟨_, rfl, _, _, _, _, rfl, rfl, h1', rfl, pe, rfl, ⟨xe, h4'⟩, ?_⟩
  refine comp_list (xs := xe) (fun i ys τ H' => H2 = H' ∧ (∃ x, τ = [x]) ∧ i ≤ 999 ∧ ys.length = i ∧ ys = ((lasts s).take i).map kV) ⟨rfl, ⟨_, rfl⟩, Nat.zero_le _, rfl, rfl⟩ (fun i ys τ H' z => z.1 ▸ h4') ?_ ?_
  · rintro i x ys τ H' hx ⟨rfl, ⟨y, rfl⟩, hi, hy, hP⟩
    obtain ⟨t, ht, b, rfl, hb⟩ := paired_get h7' hx
    have hil : i < xe.length := (List.getElem?_eq_some_iff.mp hx).1
    have hsl : s.ends.length = xe.length := h7.length
    refine ⟨_, rfl, _, _, _, _, rfl, rfl, hb, rfl, szl' (by omega), rfl, ⟨_, rfl⟩, by omega, by rw [List.length_append]; show ys.length + 1 = i + 1; omega, ?_⟩
    have e : (lasts s).take (i + 1) = (lasts s).take i ++ [Sum.inl t.1] := by
      have : (lasts s)[i]? = some (Sum.inl t.1) := by unfold lasts; rw [List.getElem?_map, ht]; rfl
      rw [List.take_add_one, this]; rfl
    rw [e, List.map_append, hP]
    rfl
  rintro ys τ H3 ⟨rfl, _, _, hy3, hP3⟩ p3 hp3
  rw [← le, List.take_length] at hP3
  refine ⟨p3, rfl, .inr ⟨lasts s, by rw [← hP3]; exact SqL.of upd_same, by omega, fun H4 g4 => ?_⟩⟩
  have e : plainB s = decide (lasts s).Nodup := by
    unfold plainB
    rw [decide_eq_false (show ¬ s.begins.length > 1 by omega), decide_eq_true c2]; rfl
  have q' := q H4 ((g.trans (same_new hp3 _)).trans g4)
  rw [e] at q'
  exact q'

theorem sc_refuse_choices : FnScope ["scribe"] ["scribe"] (defScope s_refuse_choices) := ⟨rfl, rfl, rfl, by decide +kernel, rfl, by decide +kernel, by decide +kernel⟩
theorem ok_refuse_choices (B : Bi mg) {c_ScribeError c_NoWay c_NoRoom c_NotPlain c_OtherSigns c_TooMany c_TwoWays c_NeverPlain c_NoText : Addr} (XB : Xb K mg c_ScribeError c_NoWay c_NoRoom c_NotPlain c_OtherSigns c_TooMany c_TwoWays c_NeverPlain c_NoText) (C_is_plain : Cal P w K mg base "is_plain" ["scribe"] 2 (spPlain K)) {f : Addr} {fd : FuncData} (F : Fun K "refuse_choices" "refuse_choices" s_refuse_choices f fd) : FnOk P w K mg base (CX1 P w) 3 f fd ["scribe"] (spChoices K c_NotPlain) := by
  refine Fun.ok1 F sc_refuse_choices (fun vs H Q E h => ?_) (fun cdv A outer s H vs Q E hr h => ?_)
  · obtain ⟨v, s, pb, ps, pe, rfl, _⟩ := h; rfl
  obtain ⟨v, s, pb, ps, pe, rfl, hV, ls, le, q, hE⟩ := h
  refine ⟨_, (pss_one (ps_if (pt_not (pt_val (pe_fn C_is_plain hr (by decide : 2 ≤ 2) (by rfl) (pa_cons (pv 0) pa_nil)))) (pss_one (ps_raise XB.own_NotPlain (by rfl) (by rfl) raise_on pe_str)) pss_nil)), ?_⟩
  refine ⟨_, rfl, _, s, pb, ps, pe, rfl, hV, ls, le, fun H1 g1 => ⟨_, rfl, ?_⟩⟩
  cases hpl : plainB s with
  | false => exact iteT ⟨rfl, hE hpl _ g1⟩
  | true => exact iteF (q hpl _ g1)

theorem sc_steps_by_start : FnScope ["scribe", "found", "step"] ["scribe"] (defScope s_steps_by_start) := ⟨rfl, rfl, rfl, by decide +kernel, rfl, by decide +kernel, by decide +kernel⟩
theorem ok_steps_by_start (B : Bi mg) {c_ScribeError c_NoWay c_NoRoom c_NotPlain c_OtherSigns c_TooMany c_TwoWays c_NeverPlain c_NoText : Addr} (XB : Xb K mg c_ScribeError c_NoWay c_NoRoom c_NotPlain c_OtherSigns c_TooMany c_TwoWays c_NeverPlain c_NoText)  {f : Addr} {fd : FuncData} (F : Fun K "steps_by_start" "steps_by_start" s_steps_by_start f fd) : FnOk P w K mg base CX0 1 f fd ["scribe"] (spSteps K) := by
  refine F.ok sc_steps_by_start (fun vs H Q E h => ?_) (fun cdv A outer s H vs Q E hr h => ?_)
  · obtain ⟨v, s, pb, ps, pe, rfl, _⟩ := h; rfl
  obtain ⟨v, s, pb, ps, pe, rfl, hV, hs, q⟩ := h
  refine ⟨_, (pss_cons (ps_set (i := 1) sc_steps_by_start.nd rfl (Or.inl rfl) pe_dnewT)
      (pss_cons (ps_for PassesOwn.never (by rfl) (kPI (K := K) (fun k => iList k _) (pi_list (pe_ix (kIx (K := K) rIxT ix_tup) (pv 0) (pe_globI (by rfl) B.STEPS) (by intro _ _; rfl)))) (pg_name (i := 2) sc_steps_by_start.nd rfl (Or.inl rfl)) (pss_one (ps_expr (kPE (K := K) (fun k => tBM k _ _ _ _) (pe_bm PySem.F.plainAttrs_list PySem.F.slot_list_append PySem.F.type_list_append mt_append (kPE (K := K) (fun k => tBM k _ _ _ _) (pe_bm PySem.F.plainAttrs_dict PySem.F.slot_dict_setdefault PySem.F.type_dict_setdefault (mt_setdefault hr) (pv 1) (pa_cons (pe_tup (pa_cons (pe_ix (kIx (K := K) rIxT ix_tup) (pv 2) pe_int (by intro _ _; rfl)) (pa_cons (pe_ix (kIx (K := K) rIxT ix_tup) (pv 2) pe_int (by intro _ _; rfl)) pa_nil))) (pa_cons (pe_lst pa_nil) pa_nil)))) (pa_cons (pv 2) pa_nil))))))
      (pss_one (ps_ret (pv 1))))), ?_⟩
  obtain ⟨a, xb, xs, xe, rfl, h1, h2, h3, h4, h5, h6, h7⟩ := hV
  rw [h6.length] at hs
  refine fun d hd => ?_
  have g0 := same_new hd (.dT [])
  refine ⟨_, rfl, _, _, _, _, rfl, rfl, Same.seqT g0 h1, rfl, ps, rfl, ⟨xs, g0.seq h3⟩, ?_⟩
  refine for_list (xs := xs) (fun i σ H' => Same H H' ∧ i ≤ xs.length ∧ (∃ x, σ = [some (.ref a), some (.ref d), x]) ∧ ∃ kvs, H' d = some (.dT kvs) ∧ Bk (StV K) stKey H H' d (s.steps.take i) kvs)
    ⟨g0, Nat.zero_le _, ⟨_, rfl⟩, [], upd_same, Bk.nil⟩ (fun i σ H' _ z => z.1.seq h3) ?_ ?_
  · rintro i x σ H1 hx ⟨g1, hi, ⟨x2, rfl⟩, kvs, hkd, bk⟩
    obtain ⟨t, ht, b, rfl, hb⟩ := paired_get h6 hx
    have hil : i < xs.length := (List.getElem?_eq_some_iff.mp hx).1
    have hb1 := (Same.grow g1).seqT hb
    have hkl : kvs.length ≤ 999 := by have := bk.len; rw [List.length_take] at this; omega
    refine ⟨_, rfl, .inr (.inr (.inl ⟨rfl, .inr ⟨kvs, hkd⟩⟩)), ?_⟩
    refine ⟨_, rfl, _, _, _, _, rfl, rfl, hb1, rfl, _, rfl, _, _, _, _, rfl, rfl, hb1, rfl, (by show 2 ≤ sizeLine; decide), fun p hp => ?_⟩
    have gp := same_new hp (.tup [V.int t.1, V.str t.2.1])
    have ep : upd H1 p (.tup [V.int t.1, V.str t.2.1]) p = some (.tup ((stKey t).map kV)) := upd_same
    refine ⟨szl (Nat.le_of_ble_eq_true rfl), fun l hl => ?_⟩
    have gl := same_new hl (.lst [])
    have hk2 := (gp.trans gl) _ _ hkd
    have bk2 := bk.mono (stv_gt K) (gp.trans gl)
    have g2 := (g1.trans gp).trans gl
    have hb2 := (Same.grow (gp.trans gl)).seqT hb1
    have el : upd (upd H1 p (.tup [V.int t.1, V.str t.2.1])) l (.lst []) l = some (.lst []) := upd_same
    have hl0 : H l = none := (g1.trans gp).free hl
    have hln : ∀ k, valV kvs k ≠ some (.ref l) := fun k hk => by
      obtain ⟨l', ys, e, _, _, h3', _⟩ := bk.there k _ hk
      injection e with e
      subst e
      rw [gp _ _ h3'] at hl; cases hl
    have hld : l ≠ d := (ne_of_none (gp _ _ hkd) hl).symm
    have ep2 := gl _ _ ep
    generalize upd (upd H1 p (.tup [V.int t.1, V.str t.2.1])) l (.lst []) = H2 at hk2 bk2 g2 hb2 el ep2 ⊢
    refine ⟨d, .ref p, .ref l, rfl, rfl, .inr ⟨kvs, stKey t, p, hk2, rfl, ep2, szl' (by omega), fun r hr2 => ?_, fun hn => ?_⟩⟩
    · obtain ⟨l2, ys, rfl, j1, j2, j3, j4, j5⟩ := bk2.there _ _ hr2
      have hyl : ys.length ≤ 999 := by
        rw [← j4.length]
        have := List.length_filter_le (fun t' => decide (stKey t' = stKey t)) (s.steps.take i)
        rw [List.length_take] at this; omega
      refine ⟨.inl ⟨rfl, _, SqL.of j3⟩, _, rfl, l2, ys, _, rfl, rfl, j3, szl' (by omega), ?_⟩
      refine ⟨same_updN g2 j1, hil, ⟨_, rfl⟩, kvs, by rw [upd_ne j2.symm]; exact hk2, ?_⟩
      rw [take_get ht]
      exact bk2.put (stv_gt K) hr2 j3 ⟨b, rfl, hb2⟩
    · have e3 : upd H2 d (.dT (putK kvs (stKey t) (.ref l))) l = some (.lst []) := by rw [upd_ne hld]; exact el
      refine ⟨.inl ⟨rfl, _, SqL.of e3⟩, _, rfl, l, [], _, rfl, rfl, e3, szl' (by simp), ?_⟩
      refine ⟨same_updN (same_updN g2 hd) hl0, hil, ⟨_, rfl⟩, putK kvs (stKey t) (.ref l), by rw [upd_ne hld.symm]; exact upd_same, ?_⟩
      rw [take_get ht]
      exact bk2.new (stv_gt K) hn hl0 hld hk2 (fun _ z => nomatch z) (fun _ _ z => nomatch z) hln el ⟨b, rfl, hb2⟩
  rintro σ H1 ⟨g1, _, ⟨x2, rfl⟩, kvs, hkd, bk⟩
  rw [← h6.length, List.take_length] at bk
  exact ⟨_, rfl, q _ _ g1 ⟨d, kvs, rfl, hkd, bk⟩⟩

theorem sc_end_words_by_room : FnScope ["scribe", "found", "room", "word"] ["scribe"] (defScope s_end_words_by_room) := ⟨rfl, rfl, rfl, by decide +kernel, rfl, by decide +kernel, by decide +kernel⟩
theorem ok_end_words_by_room (B : Bi mg) {c_ScribeError c_NoWay c_NoRoom c_NotPlain c_OtherSigns c_TooMany c_TwoWays c_NeverPlain c_NoText : Addr} (XB : Xb K mg c_ScribeError c_NoWay c_NoRoom c_NotPlain c_OtherSigns c_TooMany c_TwoWays c_NeverPlain c_NoText)  {f : Addr} {fd : FuncData} (F : Fun K "end_words_by_room" "end_words_by_room" s_end_words_by_room f fd) : FnOk P w K mg base CX0 1 f fd ["scribe"] (spEnds K) := by
  refine F.ok sc_end_words_by_room (fun vs H Q E h => ?_) (fun cdv A outer s H vs Q E hr h => ?_)
  · obtain ⟨v, s, pb, ps, pe, rfl, _⟩ := h; rfl
  obtain ⟨v, s, pb, ps, pe, rfl, hV, hs, q⟩ := h
  refine ⟨_, (pss_cons (ps_set (i := 1) sc_end_words_by_room.nd rfl (Or.inl rfl) pe_dnewK)
      (pss_cons (ps_for PassesOwn.never (by rfl) (kPI (K := K) (fun k => iList k _) (pi_list (pe_ix (kIx (K := K) rIxT ix_tup) (pv 0) (pe_globI (by rfl) B.ENDS) (by intro _ _; rfl)))) (kPG (K := K) (fun k => gTup k 2 _) (pg_tup (n := 2) (by rfl) (pgs_cons (pg_name (i := 2) sc_end_words_by_room.nd rfl (Or.inl rfl)) (pgs_cons (pg_name (i := 3) sc_end_words_by_room.nd rfl (Or.inl rfl)) pgs_nil)))) (pss_one (ps_expr (kPE (K := K) (fun k => tBM k _ _ _ _) (pe_bm PySem.F.plainAttrs_list PySem.F.slot_list_append PySem.F.type_list_append mt_append (kPE (K := K) (fun k => tBM k _ _ _ _) (pe_bm PySem.F.plainAttrs_dict PySem.F.slot_dict_setdefault PySem.F.type_dict_setdefault (mt_setdefault hr) (pv 1) (pa_cons (pv 2) (pa_cons (pe_lst pa_nil) pa_nil)))) (pa_cons (pv 3) pa_nil))))))
      (pss_one (ps_ret (pv 1))))), ?_⟩
  obtain ⟨a, xb, xs, xe, rfl, h1, h2, h3, h4, h5, h6, h7⟩ := hV
  rw [h7.length] at hs
  refine fun d hd => ?_
  have g0 := same_new hd (.dK [])
  refine ⟨_, rfl, _, _, _, _, rfl, rfl, Same.seqT g0 h1, rfl, pe, rfl, ⟨xe, g0.seq h4⟩, ?_⟩
  refine for_list (xs := xe) (fun i σ H' => Same H H' ∧ i ≤ xe.length ∧ (∃ x y, σ = [some (.ref a), some (.ref d), x, y]) ∧ ∃ kvs, H' d = some (.dK kvs) ∧ Bk WdV mkKey H H' d (s.ends.take i) kvs)
    ⟨g0, Nat.zero_le _, ⟨_, _, rfl⟩, [], upd_same, Bk.nil⟩ (fun i σ H' _ z => z.1.seq h4) ?_ ?_
  · rintro i x σ H1 hx ⟨g1, hi, ⟨x2, x3, rfl⟩, kvs, hkd, bk⟩
    obtain ⟨t, ht, b, rfl, hb⟩ := paired_get h7 hx
    have hil : i < xe.length := (List.getElem?_eq_some_iff.mp hx).1
    have hb1 := (Same.grow g1).seqT hb
    have hkl : kvs.length ≤ 999 := by have := bk.len; rw [List.length_take] at this; omega
    refine ⟨b, _, rfl, hb1, rfl, _, _, rfl, _, _, rfl, rfl, ?_⟩
    refine ⟨_, rfl, .inr (.inr (.inl ⟨rfl, .inl ⟨kvs, hkd⟩⟩)), ?_⟩
    refine ⟨_, rfl, szl (Nat.le_of_ble_eq_true rfl), fun l hl => ?_⟩
    have gl := same_new hl (.lst [])
    have hk2 := gl _ _ hkd
    have bk2 := bk.mono (fun _ _ _ _ _ h => h) gl
    have g2 := g1.trans gl
    have el : upd H1 l (.lst []) l = some (.lst []) := upd_same
    have hl0 : H l = none := g1.free hl
    have hln : ∀ k, valV kvs k ≠ some (.ref l) := fun k hk => by
      obtain ⟨l', ys, e, _, _, h3', _⟩ := bk.there k _ hk
      injection e with e
      subst e
      rw [h3'] at hl; cases hl
    have hld : l ≠ d := (ne_of_none hkd hl).symm
    generalize upd H1 l (.lst []) = H2 at hk2 bk2 g2 el ⊢
    refine ⟨d, .int t.1, .ref l, rfl, rfl, .inl ⟨kvs, mkKey t, hk2, rfl, szl' (by omega), fun r hr2 => ?_, fun hn => ?_⟩⟩
    · obtain ⟨l2, ys, rfl, j1, j2, j3, j4, j5⟩ := bk2.there _ _ hr2
      have hyl : ys.length ≤ 999 := by
        rw [← j4.length]
        have := List.length_filter_le (fun t' => decide (mkKey t' = mkKey t)) (s.ends.take i)
        rw [List.length_take] at this; omega
      refine ⟨.inl ⟨rfl, _, SqL.of j3⟩, _, rfl, l2, ys, _, rfl, rfl, j3, szl' (by omega), ?_⟩
      refine ⟨same_updN g2 j1, hil, ⟨_, _, rfl⟩, kvs, by rw [upd_ne j2.symm]; exact hk2, ?_⟩
      rw [take_get ht]
      exact bk2.put (fun _ _ _ _ _ h => h) hr2 j3 rfl
    · have e3 : upd H2 d (.dK (putK kvs (mkKey t) (.ref l))) l = some (.lst []) := by rw [upd_ne hld]; exact el
      refine ⟨.inl ⟨rfl, _, SqL.of e3⟩, _, rfl, l, [], _, rfl, rfl, e3, szl' (by simp), ?_⟩
      refine ⟨same_updN (same_updN g2 hd) hl0, hil, ⟨_, _, rfl⟩, putK kvs (mkKey t) (.ref l), by rw [upd_ne hld.symm]; exact upd_same, ?_⟩
      rw [take_get ht]
      exact bk2.new (fun _ _ _ _ _ h => h) hn hl0 hld hk2 (fun _ z => nomatch z) (fun _ _ z => nomatch z) hln el rfl
  rintro σ H1 ⟨g1, _, ⟨x2, x3, rfl⟩, kvs, hkd, bk⟩
  rw [← h7.length, List.take_length] at bk
  exact ⟨_, rfl, q _ _ g1 ⟨d, kvs, rfl, hkd, bk⟩⟩

theorem sc_read_from : FnScope ["steps", "room", "text", "written", "sign", "step"] ["steps", "room", "text"] (defScope s_read_from) := ⟨rfl, rfl, rfl, by decide +kernel, rfl, by decide +kernel, by decide +kernel⟩
theorem ok_read_from (B : Bi mg) {c_ScribeError c_NoWay c_NoRoom c_NotPlain c_OtherSigns c_TooMany c_TwoWays c_NeverPlain c_NoText : Addr} (XB : Xb K mg c_ScribeError c_NoWay c_NoRoom c_NotPlain c_OtherSigns c_TooMany c_TwoWays c_NeverPlain c_NoText)  {f : Addr} {fd : FuncData} (F : Fun K "read_from" "read_from" s_read_from f fd) : FnOk P w K mg base CX0 1 f fd ["steps", "room", "text"] (spReadFrom K) := by
  refine F.ok sc_read_from (fun vs H Q E h => ?_) (fun cdv A outer s H vs Q E hr h => ?_)
  · obtain ⟨vS, H0, s, r0, x, rfl, _⟩ := h; rfl
  obtain ⟨vS, H0, s, r0, x, rfl, hS, hSh, hx, qn, qs⟩ := h
  refine ⟨_, (pss_cons (ps_set (i := 3) sc_read_from.nd rfl (Or.inl rfl) (pe_lst pa_nil))
      (pss_cons (ps_for PassesOwn.never (by rfl) (pi_str (pv 2)) (pg_name (i := 4) sc_read_from.nd rfl (Or.inl rfl)) (pss_cons (ps_if (pt_cmp (pc_dnotin (hu_of hr) (pe_tup (pa_cons (pv 1) (pa_cons (pv 4) pa_nil))) (pv 0))) (pss_one (ps_ret pe_non)) pss_nil)
      (pss_cons (ps_set (i := 5) sc_read_from.nd rfl (Or.inl rfl) (pe_ix (kIx (K := K) rIxL ix_list) (pe_dget (hu_of hr) (pv 0) (pe_tup (pa_cons (pv 1) (pa_cons (pv 4) pa_nil))) (by intro _ _; rfl)) pe_int (by intro _ _; rfl)))
      (pss_cons (ps_expr (kPE (K := K) (fun k => tBM k _ _ _ _) (pe_bm PySem.F.plainAttrs_list PySem.F.slot_list_append PySem.F.type_list_append mt_append (pv 3) (pa_cons (pe_ix (kIx (K := K) rIxT ix_tup) (pv 5) pe_int (by intro _ _; rfl)) pa_nil))))
      (pss_one (ps_set (i := 1) sc_read_from.nd rfl (Or.inl rfl) (pe_ix (kIx (K := K) rIxT ix_tup) (pv 5) pe_int (by intro _ _; rfl))))))))
      (pss_one (ps_ret (pe_tup (pa_cons (pv 1) (pa_cons (kPE (K := K) (fun k => tBM k _ _ _ _) (pe_bm PySem.F.plainAttrs_str PySem.F.slot_str_join PySem.F.type_str_join mt_join pe_str (pa_cons (pv 3) pa_nil))) pa_nil))))))), ?_⟩
  refine ⟨szl (Nat.le_of_ble_eq_true rfl), fun pw hpw => ?_⟩
  have gw := same_new hpw (.lst [])
  refine ⟨_, rfl, _, rfl, ?_⟩
  have hxl : (cl x).length = x.length := cl_length x
  refine for_str (fun i σ H' => i ≤ x.length ∧ Same H H' ∧ ∃ r u zs x4 x5, goM s (r0, "") ((cl x).take i) = some (r, u) ∧ σ = [some vS, some (.int r), some (.str x), some (.ref pw), x4, x5] ∧ H' pw = some (.lst (zs.map V.str)) ∧ catS zs = u ∧ zs.length = i ∧ u.length ≤ 100 * i)
    ⟨Nat.zero_le _, gw, r0, "", [], none, none, rfl, rfl, upd_same, rfl, rfl, Nat.le_refl _⟩ ?_ ?_
  · rintro i c σ H5 hc ⟨hi, g5, r, u, zs, x7, x8, hgo, rfl, hzw, ez, lz, lu⟩
    have hil : i < x.length := by rw [← hxl]; exact (List.getElem?_eq_some_iff.mp hc).1
    have fail : nextM s (r, u) c = none → goM s (r0, "") (cl x) = none := fun z => by
      have : goM s (r0, "") ((cl x).take (i + 1)) = none := by rw [go_take hc, hgo]; exact z
      exact go_cut this
    refine ⟨_, rfl, _, rfl, (by show 2 ≤ sizeLine; decide), fun p hp => ?_⟩
    have gp := same_new hp (.tup [V.int r, V.str ⟨#[c]⟩])
    obtain ⟨d, o, rfl, hget, hno, hyes⟩ := ((hS.mono g5).mono gp).get (r := r) (g := ⟨#[c]⟩) upd_same
    refine ⟨_, rfl, d, o, rfl, hget, _, rfl, ?_⟩
    cases ho : o with
    | none =>
      refine iteT ?_
      exact qn (fail (by unfold nextM; rw [hno ho])) _ (g5.trans gp)
    | some u1 =>
    refine iteF ?_
    obtain ⟨l1, t, l', y, ys, rfl, hl1, hft, hpr⟩ := hyes u1 ho
    have hzp := gp _ _ hzw
    have g6 := g5.trans gp
    clear hno hyes
    generalize upd H5 p (.tup [V.int r, V.str ⟨#[c]⟩]) = H6 at gp hget hl1 hpr hzp g6 ⊢
    refine ⟨_, rfl, _, rfl, _, rfl, (by show 2 ≤ sizeLine; decide), fun p2 hp2 => ?_⟩
    have gp2 := same_new hp2 (.tup [V.int r, V.str ⟨#[c]⟩])
    obtain ⟨d2, o2, e2, hget2, hno2, hyes2⟩ := ((hS.mono g6).mono gp2).get (r := r) (g := ⟨#[c]⟩) upd_same
    cases e2
    have ho2 : ∃ u2, o2 = some u2 := by
      cases o2 with
      | none => rw [hno2 rfl] at hft; cases hft
      | some u2 => exact ⟨u2, rfl⟩
    obtain ⟨u2, ho2⟩ := ho2
    obtain ⟨l2, t2, l2', y2, ys2, rfl, hl2, hft2, hpr2⟩ := hyes2 u2 ho2
    rw [hft] at hft2
    cases hft2
    cases hpr2 with
    | cons hy2 _ =>
    obtain ⟨bt, rfl, hbt⟩ := hy2
    have tm : t ∈ s.steps := mem_filter_of hft
    obtain ⟨sl1, sl2⟩ := hSh.2.1 t tm
    have hnx : nextM s (r, u) c = some (t.2.2.2, u ++ t.2.2.1) := by unfold nextM; rw [hft]
    have hz2 := gp2 _ _ hzp
    have g7 := g6.trans gp2
    generalize upd H6 p2 (.tup [V.int r, V.str ⟨#[c]⟩]) = H7 at gp2 hget2 hl2 hbt hz2 g7 ⊢
    rw [ho2] at hget2
    refine ⟨d, _, rfl, hget2, l2, _, _, .ref bt, rfl, rfl, SqL.of hl2, atI_nat (j := 0) rfl, ?_⟩
    refine ⟨_, rfl, .inl ⟨rfl, _, SqL.of hz2⟩, _, rfl, _, _, _, _, rfl, rfl, hbt, rfl, pw, _, _, rfl, rfl, hz2, by rw [List.length_map]; exact szl' (by omega), ?_⟩
    have gr := grow_upd hz2 (.lst (zs.map V.str ++ [V.str t.2.2.1]))
    refine ⟨_, rfl, _, _, _, _, rfl, rfl, gr.seqT hbt, rfl, ?_⟩
    refine ⟨hil, same_updN g7 hpw, t.2.2.2, u ++ t.2.2.1, zs ++ [t.2.2.1], _, _, by rw [go_take hc, hgo]; exact hnx, rfl, by rw [upd_same, List.map_append]; rfl, by rw [catS_snoc, ez], by rw [List.length_append, lz]; rfl, by rw [len_app]; omega⟩
  rintro σ H5 ⟨_, g5, r, u, zs, x7, x8, hgo, rfl, hzw, ez, lz, lu⟩
  have hgo' : goM s (r0, "") (cl x) = some (r, u) := by
    have e : (cl x).take x.cps.toList.length = cl x := List.take_length ..
    rw [e] at hgo; exact hgo
  have lzx : x.cps.toList.length = x.length := hxl
  have s2 : (zs.map (·.length)).sum + zs.length * ("" : Str).length ≤ 16777216 := by
    have := catS_len zs
    rw [ez] at this
    have e0 : ("" : Str).length = 0 := rfl
    rw [e0]; omega
  refine ⟨_, rfl, rfl, _, rfl, _, pw, zs, rfl, rfl, SqL.of hzw, s2, ?_⟩
  rw [join_cat, ez]
  refine ⟨(by show 2 ≤ sizeLine; decide), fun p hp => ?_⟩
  exact qs r u hgo' (by omega) p _ (g5.trans (same_new hp _)) upd_same

theorem sc_written_for : FnScope ["scribe", "text", "begin", "read", "ends"] ["scribe", "text"] (defScope s_written_for) := ⟨rfl, rfl, rfl, by decide +kernel, rfl, by decide +kernel, by decide +kernel⟩
theorem ok_written_for (B : Bi mg) {c_ScribeError c_NoWay c_NoRoom c_NotPlain c_OtherSigns c_TooMany c_TwoWays c_NeverPlain c_NoText : Addr} (XB : Xb K mg c_ScribeError c_NoWay c_NoRoom c_NotPlain c_OtherSigns c_TooMany c_TwoWays c_NeverPlain c_NoText) (C_refuse_choices : Cal1 P w K mg base "refuse_choices" ["scribe"] 3 (spChoices K c_NotPlain)) (C_read_from : Cal P w K mg base "read_from" ["steps", "room", "text"] 1 (spReadFrom K)) (C_end_words_by_room : Cal P w K mg base "end_words_by_room" ["scribe"] 1 (spEnds K)) (C_steps_by_start : Cal P w K mg base "steps_by_start" ["scribe"] 1 (spSteps K)) {f : Addr} {fd : FuncData} (F : Fun K "written_for" "written_for" s_written_for f fd) : FnOk P w K mg base (CX1 P w) 4 f fd ["scribe", "text"] (spWritten K c_NotPlain) := by
  refine Fun.ok1 F sc_written_for (fun vs H Q E h => ?_) (fun cdv A outer s H vs Q E hr h => ?_)
  · obtain ⟨v, s, pb, ps, pe, x, rfl, _⟩ := h; rfl
  obtain ⟨v, s, pb, ps, pe, x, rfl, hV, hL, hSh, hx, q, hE⟩ := h
  refine ⟨_, (pss_cons (ps_expr (pe_fn1 C_refuse_choices hr (by decide : 3 ≤ 3) (by rfl) pass_on (pa_cons (pv 0) pa_nil)))
      (pss_cons (ps_if (pt_cmpR (kOp (K := K) rEqD (op_eqD hr.units)) (pe_ix (kIx (K := K) rIxT ix_tup) (pv 0) (pe_globI (by rfl) B.BEGINS) (by intro _ _; rfl)) (pe_lst pa_nil) (nomark _)) (pss_one (ps_ret pe_non)) pss_nil)
      (pss_cons (ps_set (i := 2) sc_written_for.nd rfl (Or.inl rfl) (pe_ix (kIx (K := K) rIxL ix_list) (pe_ix (kIx (K := K) rIxT ix_tup) (pv 0) (pe_globI (by rfl) B.BEGINS) (by intro _ _; rfl)) pe_int (by intro _ _; rfl)))
      (pss_cons (ps_set (i := 3) sc_written_for.nd rfl (Or.inl rfl) (pe_fn C_read_from hr (by decide : 1 ≤ 3) (by rfl) (pa_cons (pe_fn C_steps_by_start hr (by decide : 1 ≤ 3) (by rfl) (pa_cons (pv 0) pa_nil)) (pa_cons (pe_ix (kIx (K := K) rIxT ix_tup) (pv 2) pe_int (by intro _ _; rfl)) (pa_cons (pv 1) pa_nil)))))
      (pss_cons (ps_set (i := 4) sc_written_for.nd rfl (Or.inl rfl) (pe_fn C_end_words_by_room hr (by decide : 1 ≤ 3) (by rfl) (pa_cons (pv 0) pa_nil)))
      (pss_cons (ps_if (PW.pt (pw_or (pt_cmpR op_isN (pv 3) pe_non (nomark _)) (pw_or1 (pt_cmp (pc_dnotin (hu_of hr) (pe_ix (kIx (K := K) rIxT ix_tup) (pv 3) pe_int (by intro _ _; rfl)) (pv 4)))))) (pss_one (ps_ret pe_non)) pss_nil)
      (pss_one (ps_ret (pe_op op_add_str (pe_op op_add_str (pe_ix (kIx (K := K) rIxT ix_tup) (pv 2) pe_int (by intro _ _; rfl)) (pe_ix (kIx (K := K) rIxT ix_tup) (pv 3) pe_int (by intro _ _; rfl))) (pe_ix (kIx (K := K) rIxL ix_list) (pe_dget (hu_of hr) (pv 4) (pe_ix (kIx (K := K) rIxT ix_tup) (pv 3) pe_int (by intro _ _; rfl)) (by intro _ _; rfl)) pe_int (by intro _ _; rfl))))))))))), ?_⟩
  obtain ⟨lb, ls, le⟩ := hL
  have hV0 := hV
  obtain ⟨a, xb, xs, xe, rfl, h1, h2, h3, h4, h5, h6, h7⟩ := hV
  refine ⟨_, rfl, _, s, pb, ps, pe, rfl, hV0, ls, le, fun hpl H1 g1 => ?_, fun hpl H1 g1 => hE hpl _ g1⟩
  have q := q hpl
  have h1' := Same.seqT g1 h1
  have h5' : Paired (MkV K H1) s.begins xb := paired_mono (fun _ _ => MkV.mono (Same.grow g1)) h5
  refine ⟨_, rfl, _, _, _, _, rfl, rfl, h1', rfl, szl (Nat.le_of_ble_eq_true rfl), fun l hl => ?_⟩
  have gl := same_new hl (.lst [])
  refine ⟨.lst (s.begins.map dMk), .lst [], rep_lst (gl.seq (g1.seq h2)) (notIn_mk (m := (0, "")) (paired_mono (fun _ _ => MkV.mono (Same.grow gl)) h5')), rep_lst (SqL.of upd_same) .nil, ?_, _, rfl, ?_⟩
  · have := deeps_map dMk 1 deep_dMk s.begins
    simp only [deep]; omega
  have g2 := g1.trans gl
  clear g1 gl h1' h5'
  generalize upd H1 l (.lst []) = H2 at g2 ⊢
  cases hb : s.begins with
  | nil =>
    refine iteT ?_
    have q' := q _ g2
    unfold runM at q'
    rw [hb] at q'
    exact q'
  | cons m rest =>
  refine iteF ?_
  rw [hb] at h5
  have h0 : 0 < xb.length := by rw [← h5.length]; simp
  obtain ⟨v0, xb', rfl⟩ : ∃ v0 xb', xb = v0 :: xb' := by cases xb with | nil => cases h0 | cons v0 xb' => exact ⟨_, _, rfl⟩
  cases h5 with
  | cons hm0 _ =>
  obtain ⟨bm, rfl, hbm⟩ := hm0
  have hml : m.2.length ≤ 100 := hSh.1 m (by rw [hb]; exact List.mem_cons_self ..)
  refine ⟨_, rfl, _, _, _, _, rfl, rfl, Same.seqT g2 h1, rfl, pb, _, _, .ref bm, rfl, rfl, g2.seq h2, atI_nat (j := 0) rfl, ?_⟩
  
  have fin : ∀ o, goM s (m.1, "") (cl x) = o → runM s x = (o.map fun c => (c.1, m.2 ++ c.2)).bind (lastM s) := fun o ho => by
    unfold runM
    rw [hb]
    show (goM s m (cl x)).bind (lastM s) = _
    rw [go_from, ho]
  refine ⟨_, rfl, _, s, pb, ps, pe, rfl, hV0.mono g2, ls, fun vS H3 g3 hS3 => ?_⟩
  have g23 := g2.trans g3
  refine ⟨_, rfl, _, _, _, _, rfl, rfl, Same.seqT g23 hbm, rfl, _, rfl, vS, _, s, m.1, x, rfl, hS3, hSh, hx, fun hnone H4 g4 => ?_, fun r u hgo hu p H4 g4 ep => ?_⟩
  · refine ⟨_, rfl, _, s, pb, ps, pe, rfl, hV0.mono (g23.trans g4), le, fun vE H5 g5 hE5 => ?_⟩
    refine ⟨_, rfl, rfl, _, rfl, iteDT rfl ?_⟩
    have q' := q _ ((g23.trans g4).trans g5)
    rw [fin none hnone] at q'
    exact q'
  refine ⟨_, rfl, _, s, pb, ps, pe, rfl, hV0.mono (g23.trans g4), le, fun vE H5 g5 hE5 => ?_⟩
  have g05 := (g23.trans g4).trans g5
  have ep5 := g5 _ _ ep
  have hrun : runM s x = lastM s (r, m.2 ++ u) := fin _ hgo
  refine ⟨_, rfl, rfl, _, rfl, iteD (fun z => nomatch z) ?_⟩
  obtain ⟨d, o, rfl, hget, hno, hyes⟩ := hE5.get (r := r)
  refine ⟨_, rfl, _, _, _, _, rfl, rfl, SqT.of ep5, rfl, _, rfl, d, o, rfl, hget, _, rfl, ?_⟩
  cases ho : o with
  | none =>
    refine iteT ?_
    have q' := q _ g05
    have e : lastM s (r, m.2 ++ u) = none := by unfold lastM; rw [hno ho]
    rw [hrun, e] at q'
    exact q'
  | some u1 =>
  refine iteF ?_
  obtain ⟨l1, t, l', y, ys, rfl, hl1, hft, hpr⟩ := hyes u1 ho
  cases hpr with
  | cons hy _ =>
  cases (show y = .str t.2 from hy)
  have tl : t.2.length ≤ 100 := hSh.2.2 t (mem_filter_of hft)
  have hla : lastM s (r, m.2 ++ u) = some (m.2 ++ u ++ t.2) := by unfold lastM; rw [hft]
  rw [ho] at hget
  refine ⟨_, rfl, _, _, _, _, rfl, rfl, Same.seqT g05 hbm, rfl, _, rfl, _, _, _, _, rfl, rfl, SqT.of ep5, rfl, _, _, rfl, rfl, szl (by omega), _, rfl, _, rfl, _, _, _, _, rfl, rfl, SqT.of ep5, rfl, d, _, rfl, hget, l1, _, _, _, rfl, rfl, SqL.of hl1, atI_nat (j := 0) rfl, _, _, rfl, rfl, szl (by rw [len_app]; omega), ?_⟩
  have q' := q _ g05
  rw [hrun, hla] at q'
  exact q'

theorem sc_refuse_many : FnScope ["pairs"] ["pairs"] (defScope s_refuse_many) := ⟨rfl, rfl, rfl, by decide +kernel, rfl, by decide +kernel, by decide +kernel⟩
theorem ok_refuse_many (B : Bi mg) {c_ScribeError c_NoWay c_NoRoom c_NotPlain c_OtherSigns c_TooMany c_TwoWays c_NeverPlain c_NoText : Addr} (XB : Xb K mg c_ScribeError c_NoWay c_NoRoom c_NotPlain c_OtherSigns c_TooMany c_TwoWays c_NeverPlain c_NoText)  {f : Addr} {fd : FuncData} (F : Fun K "refuse_many" "refuse_many" s_refuse_many f fd) : FnOk P w K mg base (CX1 P w) 1 f fd ["pairs"] (spRefuse K c_TooMany) := by
  refine Fun.ok1 F sc_refuse_many (fun vs H Q E h => ?_) (fun cdv A outer s H vs Q E hr h => ?_)
  · obtain ⟨p, n, rfl, _⟩ := h; rfl
  obtain ⟨p, n, rfl, hp, q, hE⟩ := h
  refine ⟨_, (pss_one (ps_if (pt_cmpR op_gt (pe_callB (CallR.or call_len_seq call_len_d) (by rfl) B.len bt_len (pa_cons (pv 0) pa_nil)) (pe_globI (by rfl) B.MOST_PAIRS) (nomark _)) (pss_one (ps_raise XB.own_TooMany (by rfl) (by rfl) raise_on pe_str)) pss_nil)), ?_⟩
  rcases hp with ⟨ys, hS, rfl⟩ | hd
  · refine ⟨_, rfl, .inl ⟨p, ys, rfl, .inl hS, _, _, rfl, rfl, _, rfl, iteDd (fun c1 => ?_) (fun c1 => ?_)⟩⟩
    · exact ⟨rfl, hE (by omega)⟩
    · exact q (by omega)
  · refine ⟨_, rfl, .inr ⟨p, n, rfl, hd, _, _, rfl, rfl, _, rfl, iteDd (fun c1 => ?_) (fun c1 => ?_)⟩⟩
    · exact ⟨rfl, hE (by omega)⟩
    · exact q (by omega)

theorem sc_pairs_behind : FnScope ["pairs", "sign", "steps", "behind", "room", "word", "step"] ["pairs", "sign", "steps"] (defScope s_pairs_behind) := ⟨rfl, rfl, rfl, by decide +kernel, rfl, by decide +kernel, by decide +kernel⟩
theorem ok_pairs_behind (B : Bi mg) {c_ScribeError c_NoWay c_NoRoom c_NotPlain c_OtherSigns c_TooMany c_TwoWays c_NeverPlain c_NoText : Addr} (XB : Xb K mg c_ScribeError c_NoWay c_NoRoom c_NotPlain c_OtherSigns c_TooMany c_TwoWays c_NeverPlain c_NoText) (C_refuse_many : Cal1 P w K mg base "refuse_many" ["pairs"] 1 (spRefuse K c_TooMany)) {f : Addr} {fd : FuncData} (F : Fun K "pairs_behind" "pairs_behind" s_pairs_behind f fd) : FnOk P w K mg base (CX1 P w) 2 f fd ["pairs", "sign", "steps"] (spPairs K c_TooMany) := by
  refine Fun.ok1 F sc_pairs_behind (fun vs H Q E h => ?_) (fun cdv A outer s H vs Q E hr h => ?_)
  · obtain ⟨vp, k, sv, H0, Pm, ts, rfl, _⟩ := h; rfl
  obtain ⟨vp, k, sv, H0, Pm, ts, rfl, hP, hS, lP, wP, wT, q, hE⟩ := h
  refine ⟨_, (pss_cons (ps_set (i := 3) sc_pairs_behind.nd rfl (Or.inl rfl) pe_dnewT)
      (pss_cons (ps_for own_on (by rfl) (kPI (K := K) (fun k => iList k _) (pi_list (pv 0))) (kPG (K := K) (fun k => gTup k 2 _) (pg_tup (n := 2) (by rfl) (pgs_cons (pg_name (i := 4) sc_pairs_behind.nd rfl (Or.inl rfl)) (pgs_cons (pg_name (i := 5) sc_pairs_behind.nd rfl (Or.inl rfl)) pgs_nil)))) (pss_one (ps_for own_on (by rfl) (kPI (K := K) (fun k => iList k _) (pi_list (kPE (K := K) (fun k => tBM k _ _ _ _) (pe_bm PySem.F.plainAttrs_dict PySem.F.slot_dict_get PySem.F.type_dict_get (mt_get2 hr) (pv 2) (pa_cons (pe_tup (pa_cons (pv 4) (pa_cons (pv 1) pa_nil))) (pa_cons (pe_lst pa_nil) pa_nil)))))) (pg_name (i := 6) sc_pairs_behind.nd rfl (Or.inl rfl)) (pss_cons (ps_dput (hu_of hr) (pv 3) (pe_tup (pa_cons (pe_ix (kIx (K := K) rIxT ix_tup) (pv 6) pe_int (by intro _ _; rfl)) (pa_cons (pe_op op_add_str (pv 5) (pe_ix (kIx (K := K) rIxT ix_tup) (pv 6) pe_int (by intro _ _; rfl))) pa_nil))) pe_bl rfl)
      (pss_one (ps_expr (pe_fn1 C_refuse_many hr (by decide : 1 ≤ 1) (by rfl) pass_on (pa_cons (pv 3) pa_nil))))))))
      (pss_one (ps_ret (pe_callTy (call_list_d (by rfl)) (by rfl) B.list bt_list (pa_cons (pv 3) pa_nil)))))), ?_⟩
  obtain ⟨pp, xs, rfl, p1, p2⟩ := hP
  have lx : xs.length ≤ 1000 := by rw [← p2.length]; exact lP
  refine fun d hd => ?_
  have g0 := same_new hd (.dT [])
  refine ⟨_, rfl, pp, rfl, ⟨xs, g0.seq p1⟩, ?_⟩
  refine for_list (xs := xs) (fun i σ H' => Same H H' ∧ i ≤ xs.length ∧ (∃ x4 x5 x6, σ = [some (.ref pp), some (.str ⟨#[k]⟩), some sv, some (.ref d), x4, x5, x6]) ∧ ∃ kvs, H' d = some (.dT kvs) ∧ kvs.map (·.1) = (onceM ((Pm.take i).flatMap (onM ts k))).map pKey ∧ kvs.length ≤ 1000)
    ⟨g0, Nat.zero_le _, ⟨_, _, _, rfl⟩, [], upd_same, rfl, Nat.zero_le _⟩ (fun i σ H' _ z => z.1.seq p1) ?_ ?_
  · rintro i x σ H1 hx ⟨g1, hi, ⟨x4, x5, x6, rfl⟩, kvs, hkd, hkk, hkl⟩
    obtain ⟨c, hc, b, rfl, hb⟩ := paired_get p2 hx
    have hil : i < xs.length := (List.getElem?_eq_some_iff.mp hx).1
    have hb1 := (Same.grow g1).seqT hb
    have wc : c.2.length ≤ 50000 := wP c (List.mem_of_getElem? hc)
    refine ⟨b, _, rfl, hb1, rfl, _, _, rfl, _, _, rfl, rfl, ?_⟩
    refine ⟨_, rfl, (hS.mono g1).ty, _, rfl, _, rfl, (by show 2 ≤ sizeLine; decide), fun p hp => ?_⟩
    have gp := same_new hp (.tup [V.int c.1, V.str ⟨#[k]⟩])
    refine ⟨szl (Nat.le_of_ble_eq_true rfl), fun l hl => ?_⟩
    have gl := same_new hl (.lst [])
    have g2 := gp.trans gl
    have ep := gl _ _ (upd_same (H := H1) (a := p) (o := .tup [V.int c.1, V.str ⟨#[k]⟩]))
    have el : upd (upd H1 p (.tup [V.int c.1, V.str ⟨#[k]⟩])) l (.lst []) l = some (.lst []) := upd_same
    generalize upd (upd H1 p (.tup [V.int c.1, V.str ⟨#[k]⟩])) l (.lst []) = H2 at g2 ep el ⊢
    obtain ⟨sd, o, la, ys, rfl, hget, hgd, hla, hpy⟩ := ((hS.mono g1).mono g2).get2 ep el
    refine ⟨sd, _, _, o, rfl, rfl, hget, ?_⟩
    rw [hgd]
    have hk2 := g2 _ _ hkd
    refine ⟨la, rfl, ⟨ys, SqL.of hla⟩, ?_⟩
    have hle : la ≠ d := fun e => by rw [e, hk2] at hla; cases hla
    refine for_list (xs := ys) (fun j σ H' => Same H H' ∧ j ≤ ys.length ∧ (∃ x6, σ = [some (.ref pp), some (.str ⟨#[k]⟩), some (.ref sd), some (.ref d), some (.int c.1), some (.str c.2), x6]) ∧ H' la = some (.lst ys) ∧ GT H2 H' ∧ ∃ kvs, H' d = some (.dT kvs) ∧ kvs.map (·.1) = (onceM ((Pm.take i).flatMap (onM ts k) ++ ((onM ts k c).take j))).map pKey ∧ kvs.length ≤ 1000)
      ⟨g1.trans g2, Nat.zero_le _, ⟨_, rfl⟩, hla, GT.of (Same.refl _), kvs, hk2, by rw [List.take_zero, List.append_nil]; exact hkk, hkl⟩ (fun j σ H' _ z => SqL.of z.2.2.2.1) ?_ ?_
    · rintro j y σ H3 hy ⟨g3, hj, ⟨x6, rfl⟩, hla3, gt3, kvs3, hk3, hkk3, hkl3⟩
      obtain ⟨t, ht, bt, rfl, hbt⟩ := paired_get hpy hy
      have hbt3 := gt3.seqT hbt
      have hjl : j < ys.length := (List.getElem?_eq_some_iff.mp hy).1
      have tm : t ∈ ts := (List.mem_filter.mp (List.mem_of_getElem? ht)).1
      have tw := wT t tm
      have hon : (onM ts k c)[j]? = some (t.2.2.2, c.2 ++ t.2.2.1) := by unfold onM; rw [List.getElem?_map, ht]; rfl
      refine ⟨_, rfl, _, rfl, _, _, _, _, rfl, rfl, hbt3, rfl, _, rfl, _, rfl, _, _, _, _, rfl, rfl, hbt3, rfl, _, _, rfl, rfl, szl (by omega), (by show 2 ≤ sizeLine; decide), fun p2 hp2 => ?_⟩
      have gp2 := same_new hp2 (.tup [V.int t.2.2.2, V.str (c.2 ++ t.2.2.1)])
      have ep2 : upd H3 p2 (.tup [V.int t.2.2.2, V.str (c.2 ++ t.2.2.1)]) p2 = some (.tup ((pKey (t.2.2.2, c.2 ++ t.2.2.1)).map kV)) := upd_same
      have hk4 := gp2 _ _ hk3
      refine ⟨d, _, rfl, DPut.t (v := .bl true) hk4 ep2 (szl' (by omega)), ?_⟩
      have hla4 := gp2 _ _ hla3
      have g4 : Same H (upd (upd H3 p2 (.tup [V.int t.2.2.2, V.str (c.2 ++ t.2.2.1)])) d (.dT (putK kvs3 (pKey (t.2.2.2, c.2 ++ t.2.2.1)) (.bl true)))) := same_updN (g3.trans gp2) hd
      have gt4 := (gt3.trans (GT.of gp2)).trans (gt_upd hk4 (fun _ z => nomatch z) (fun _ _ z => nomatch z) (.dT (putK kvs3 (pKey (t.2.2.2, c.2 ++ t.2.2.1)) (.bl true))))
      have hla5 : upd (upd H3 p2 (.tup [V.int t.2.2.2, V.str (c.2 ++ t.2.2.1)])) d (.dT (putK kvs3 (pKey (t.2.2.2, c.2 ++ t.2.2.1)) (.bl true))) la = some (.lst ys) := by rw [upd_ne hle]; exact hla4
      have hk5 : upd (upd H3 p2 (.tup [V.int t.2.2.2, V.str (c.2 ++ t.2.2.1)])) d (.dT (putK kvs3 (pKey (t.2.2.2, c.2 ++ t.2.2.1)) (.bl true))) d = some (.dT (putK kvs3 (pKey (t.2.2.2, c.2 ++ t.2.2.1)) (.bl true))) := upd_same
      have hkk5 : (putK kvs3 (pKey (t.2.2.2, c.2 ++ t.2.2.1)) (.bl true)).map (·.1) = (onceM ((Pm.take i).flatMap (onM ts k) ++ ((onM ts k c).take (j + 1)))).map pKey := by
        rw [put_keys, hkk3, take_get hon, ← List.append_assoc, once_snoc, add_map pKey_inj]
      generalize upd (upd H3 p2 (.tup [V.int t.2.2.2, V.str (c.2 ++ t.2.2.1)])) d (.dT (putK kvs3 (pKey (t.2.2.2, c.2 ++ t.2.2.1)) (.bl true))) = H5 at g4 gt4 hla5 hk5 ⊢
      generalize putK kvs3 (pKey (t.2.2.2, c.2 ++ t.2.2.1)) (.bl true) = kvs5 at hk5 hkk5 ⊢
      refine ⟨_, rfl, d, kvs5.length, rfl, .inr (.inr ⟨kvs5, hk5, rfl⟩), fun hle5 => ?_, fun hgt5 => hE ?_ _ g4⟩
      · exact ⟨g4, hjl, ⟨_, rfl⟩, hla5, gt4, kvs5, hk5, hkk5, hle5⟩
      · have e1 := congrArg List.length hkk5
        rw [List.length_map, List.length_map] at e1
        obtain ⟨r, hr'⟩ := flat_cut (onM ts k) hc
        have e2 : newsM ts Pm k = ((Pm.take i).flatMap (onM ts k) ++ ((onM ts k c).take (j + 1))) ++ ((onM ts k c).drop (j + 1) ++ r) := by
          unfold newsM
          rw [hr', List.append_assoc, List.append_assoc, ← List.append_assoc (List.take _ _), List.take_append_drop]
        unfold behindM
        rw [e2]
        have := once_le ((Pm.take i).flatMap (onM ts k) ++ ((onM ts k c).take (j + 1))) ((onM ts k c).drop (j + 1) ++ r)
        omega
    rintro σ H3 ⟨g3, _, ⟨x6, rfl⟩, hla3, gt3, kvs3, hk3, hkk3, hkl3⟩
    refine ⟨g3, hil, ⟨_, _, _, rfl⟩, kvs3, hk3, ?_, hkl3⟩
    have e : ys.length = (onM ts k c).length := by unfold onM; rw [List.length_map]; exact hpy.length.symm
    rw [e, List.take_length] at hkk3
    rw [flat_take _ hc]; exact hkk3
  rintro σ H1 ⟨g1, _, ⟨x4, x5, x6, rfl⟩, kvs, hkd, hkk, hkl⟩
  rw [← p2.length, List.take_length] at hkk
  have e1 := congrArg List.length hkk
  rw [List.length_map, List.length_map] at e1
  refine ⟨_, rfl, d, rfl, .inr ⟨kvs, hkd, fun bs l hb hl => ?_⟩⟩
  have gl := same_new hl (.lst (bs.map V.ref))
  exact q (by show (onceM (newsM ts Pm k)).length ≤ 1000; unfold newsM; omega) _ _ (g1.trans gl) ⟨l, _, rfl, SqL.of upd_same, paired_mono (fun _ _ => MkV.mono (Same.grow gl)) (mk_of_keys hb hkk)⟩

theorem sc_all_written : FnScope ["scribe", "text", "pairs", "steps", "sign", "ends", "words", "room", "word", "last"] ["scribe", "text"] (defScope s_all_written) := ⟨rfl, rfl, rfl, by decide +kernel, rfl, by decide +kernel, by decide +kernel⟩
theorem ok_all_written (B : Bi mg) {c_ScribeError c_NoWay c_NoRoom c_NotPlain c_OtherSigns c_TooMany c_TwoWays c_NeverPlain c_NoText : Addr} (XB : Xb K mg c_ScribeError c_NoWay c_NoRoom c_NotPlain c_OtherSigns c_TooMany c_TwoWays c_NeverPlain c_NoText) (C_refuse_many : Cal1 P w K mg base "refuse_many" ["pairs"] 1 (spRefuse K c_TooMany)) (C_steps_by_start : Cal P w K mg base "steps_by_start" ["scribe"] 1 (spSteps K)) (C_end_words_by_room : Cal P w K mg base "end_words_by_room" ["scribe"] 1 (spEnds K)) (C_pairs_behind : Cal1 P w K mg base "pairs_behind" ["pairs", "sign", "steps"] 2 (spPairs K c_TooMany)) {f : Addr} {fd : FuncData} (F : Fun K "all_written" "all_written" s_all_written f fd) : FnOk P w K mg base (CX1 P w) 3 f fd ["scribe", "text"] (spAllW K c_TooMany) := by
  refine Fun.ok1 F sc_all_written (fun vs H Q E h => ?_) (fun cdv A outer s H vs Q E hr h => ?_)
  · obtain ⟨v, s, pb, ps, pe, x, rfl, _⟩ := h; rfl
  obtain ⟨v, s, pb, ps, pe, x, rfl, hV, hL, hSh, hx, h64, q, hE⟩ := h
  refine ⟨_, (pss_cons (ps_set (i := 2) sc_all_written.nd rfl (Or.inl rfl) (pe_ix (kIx (K := K) rIxT ix_tup) (pv 0) (pe_globI (by rfl) B.BEGINS) (by intro _ _; rfl)))
      (pss_cons (ps_expr (pe_fn1 C_refuse_many hr (by decide : 1 ≤ 2) (by rfl) pass_on (pa_cons (pv 2) pa_nil)))
      (pss_cons (ps_set (i := 3) sc_all_written.nd rfl (Or.inl rfl) (pe_fn C_steps_by_start hr (by decide : 1 ≤ 2) (by rfl) (pa_cons (pv 0) pa_nil)))
      (pss_cons (ps_for own_on (by rfl) (pi_str (pv 1)) (pg_name (i := 4) sc_all_written.nd rfl (Or.inl rfl)) (pss_one (ps_set (i := 2) sc_all_written.nd rfl (Or.inl rfl) (pe_fn1 C_pairs_behind hr (by decide : 2 ≤ 2) (by rfl) pass_on (pa_cons (pv 2) (pa_cons (pv 4) (pa_cons (pv 3) pa_nil)))))))
      (pss_cons (ps_set (i := 5) sc_all_written.nd rfl (Or.inl rfl) (pe_fn C_end_words_by_room hr (by decide : 1 ≤ 2) (by rfl) (pa_cons (pv 0) pa_nil)))
      (pss_cons (ps_set (i := 6) sc_all_written.nd rfl (Or.inl rfl) pe_dnewK)
      (pss_cons (ps_for own_on (by rfl) (kPI (K := K) (fun k => iList k _) (pi_list (pv 2))) (kPG (K := K) (fun k => gTup k 2 _) (pg_tup (n := 2) (by rfl) (pgs_cons (pg_name (i := 7) sc_all_written.nd rfl (Or.inl rfl)) (pgs_cons (pg_name (i := 8) sc_all_written.nd rfl (Or.inl rfl)) pgs_nil)))) (pss_one (ps_for own_on (by rfl) (kPI (K := K) (fun k => iList k _) (pi_list (kPE (K := K) (fun k => tBM k _ _ _ _) (pe_bm PySem.F.plainAttrs_dict PySem.F.slot_dict_get PySem.F.type_dict_get (mt_get2 hr) (pv 5) (pa_cons (pv 7) (pa_cons (pe_lst pa_nil) pa_nil)))))) (pg_name (i := 9) sc_all_written.nd rfl (Or.inl rfl)) (pss_one (ps_dput (hu_of hr) (pv 6) (pe_op op_add_str (pv 8) (pv 9)) pe_bl rfl)))))
      (pss_one (ps_ret (pe_callB (call_sorted_d (by rfl)) (by rfl) B.sorted bt_sorted (pa_cons (pv 6) pa_nil))))))))))), ?_⟩
  obtain ⟨lb, ls, le⟩ := hL
  have hV0 := hV
  obtain ⟨a, xb, xs, xe, rfl, h1, h2, h3, h4, h5, h6, h7⟩ := hV
  have lb' : xb.length ≤ 999 := by rw [← h5.length]; exact lb
  refine ⟨_, rfl, _, _, _, _, rfl, rfl, h1, rfl, ?_⟩
  refine ⟨_, rfl, pb, xb.length, rfl, .inl ⟨xb, h2, rfl⟩, fun _ => ?_, fun z => absurd z (by omega)⟩
  refine ⟨_, rfl, _, s, pb, ps, pe, rfl, hV0, ls, fun vS H1 g1 hS1 => ?_⟩
  refine ⟨_, rfl, _, rfl, ?_⟩
  have hxl : (cl x).length = x.length := cl_length x
  have wT : ∀ t ∈ s.steps, t.2.2.1.length ≤ 100 := fun t ht => (hSh.2.1 t ht).2
  refine for_str (fun i σ H' => i ≤ x.length ∧ Same H1 H' ∧ ∃ P vP x4, pairsM s ((cl x).take i) = some P ∧ PrV K H' P vP ∧ P.length ≤ 1000 ∧ (∀ m ∈ P, m.2.length ≤ 100 * (i + 1)) ∧ σ = [some (.ref a), some (.str x), some vP, some vS, x4, none, none, none, none, none])
    ⟨Nat.zero_le _, Same.refl _, s.begins, .ref pb, none, rfl, (PrV.mono g1 ⟨pb, xb, rfl, h2, h5⟩), by omega, fun m hm => by have := hSh.1 m hm; omega, rfl⟩ ?_ ?_
  · rintro i c σ H2 hc ⟨hi, g2, Pm, vP, x4, hpm, hPr, lP, wP, rfl⟩
    have hil : i < x.length := by rw [← hxl]; exact (List.getElem?_eq_some_iff.mp hc).1
    refine ⟨_, rfl, _, rfl, _, rfl, vP, c, vS, H, Pm, s.steps, rfl, hPr, hS1.mono g2, lP, fun m hm => by have := wP m hm; omega, wT, fun hle v' H3 g3 hPr3 => ?_, fun hgt H3 g3 => hE (pairs_cut (i := i + 1) ?_) _ ((g1.trans g2).trans g3)⟩
    · refine ⟨hil, g2.trans g3, behindM s.steps Pm c, v', _, ?_, hPr3, hle, fun m hm => ?_, rfl⟩
      · rw [pairs_take hc, hpm]
        show (if _ then _ else _) = _
        rw [if_pos hle]
      · have := behind_len wT wP m hm; omega
    · rw [pairs_take hc, hpm]
      show (if _ then _ else _) = _
      rw [if_neg (by omega)]
  rintro σ H2 ⟨_, g2, Pm, vP, x4, hpm, hPr, lP, wP, rfl⟩
  have lzx : x.cps.toList.length = x.length := hxl
  have hpm' : pairsM s (cl x) = some Pm := by
    have e : (cl x).take x.cps.toList.length = cl x := List.take_length ..
    rw [e] at hpm; exact hpm
  have wP' : ∀ m ∈ Pm, m.2.length ≤ 50000 := fun m hm => by have := wP m hm; omega
  refine ⟨_, rfl, _, s, pb, ps, pe, rfl, (hV0.mono g1).mono g2, le, fun vE H3 g3 hE3 => ?_⟩
  refine fun d hd => ?_
  have gd := same_new hd (.dK [])
  obtain ⟨pp, ys0, rfl, p1, p2⟩ := (hPr.mono g3)
  have lys : ys0.length ≤ 1000 := by rw [← p2.length]; exact lP
  refine ⟨_, rfl, pp, rfl, ⟨ys0, gd.seq p1⟩, ?_⟩
  have wl : ∀ c : Mk, (wOnM s c).length ≤ 999 := fun c => by
    unfold wOnM
    rw [List.length_map]
    have := List.length_filter_le (fun m => decide (mkKey m = Sum.inl c.1)) s.ends
    omega
  have big : ∀ (i j : Nat) (c : Mk) (kvs : List (Key × V)), i ≤ 1000 → kvs.map (·.1) = (onceM ((Pm.take i).flatMap (wOnM s) ++ ((wOnM s c).take j))).map Sum.inr → kvs.length < sizeLine := fun i j c kvs hi hk => by
    have e1 := congrArg List.length hk
    rw [List.length_map, List.length_map] at e1
    have e2 := once_len ((Pm.take i).flatMap (wOnM s) ++ ((wOnM s c).take j))
    have e3 := flat_len wl (Pm.take i)
    have e4 := wl c
    rw [List.length_append, List.length_take] at e2
    rw [List.length_take] at e3
    have e5 : 999 * min i Pm.length ≤ 999 * 1000 := Nat.mul_le_mul_left _ (by omega)
    rw [sizeLine_eq]; omega
  refine for_list (xs := ys0) (fun i σ H' => Same H3 H' ∧ i ≤ ys0.length ∧ (∃ x7 x8 x9, σ = [some (.ref a), some (.str x), some (.ref pp), some vS, x4, some vE, some (.ref d), x7, x8, x9]) ∧ ∃ kvs, H' d = some (.dK kvs) ∧ kvs.map (·.1) = (onceM ((Pm.take i).flatMap (wOnM s))).map Sum.inr)
    ⟨gd, Nat.zero_le _, ⟨_, _, _, rfl⟩, [], upd_same, rfl⟩ (fun i σ H' _ z => z.1.seq p1) ?_ ?_
  · rintro i y σ H4 hy ⟨g4, hi, ⟨x7, x8, x9, rfl⟩, kvs, hkd, hkk⟩
    obtain ⟨c, hc, b, rfl, hb⟩ := paired_get p2 hy
    have hil : i < ys0.length := (List.getElem?_eq_some_iff.mp hy).1
    have hb4 := (Same.grow g4).seqT hb
    have wc : c.2.length ≤ 50000 := wP' c (List.mem_of_getElem? hc)
    refine ⟨b, _, rfl, hb4, rfl, _, _, rfl, _, _, rfl, rfl, ?_⟩
    refine ⟨_, rfl, (hE3.mono g4).ty, _, rfl, szl (Nat.le_of_ble_eq_true rfl), fun l hl => ?_⟩
    have gl := same_new hl (.lst [])
    have el : upd H4 l (.lst []) l = some (.lst []) := upd_same
    generalize upd H4 l (.lst []) = H5 at gl el ⊢
    obtain ⟨ed, o, la, ys, rfl, hget, hgd, hla, hpy⟩ := ((hE3.mono g4).mono gl).get2 (r := c.1) el
    refine ⟨ed, _, _, o, rfl, rfl, hget, ?_⟩
    rw [hgd]
    have hk5 := gl _ _ hkd
    refine ⟨la, rfl, ⟨ys, SqL.of hla⟩, ?_⟩
    have hle : la ≠ d := fun e => by rw [e, hk5] at hla; cases hla
    refine for_list (xs := ys) (fun j σ H' => Same H3 H' ∧ j ≤ ys.length ∧ (∃ x9, σ = [some (.ref a), some (.str x), some (.ref pp), some vS, x4, some (.ref ed), some (.ref d), some (.int c.1), some (.str c.2), x9]) ∧ H' la = some (.lst ys) ∧ ∃ kvs, H' d = some (.dK kvs) ∧ kvs.map (·.1) = (onceM ((Pm.take i).flatMap (wOnM s) ++ ((wOnM s c).take j))).map Sum.inr)
      ⟨g4.trans gl, Nat.zero_le _, ⟨_, rfl⟩, hla, kvs, hk5, by rw [List.take_zero, List.append_nil]; exact hkk⟩ (fun j σ H' _ z => SqL.of z.2.2.2.1) ?_ ?_
    · rintro j y σ H6 hy6 ⟨g6, hj, ⟨x9, rfl⟩, hla6, kvs6, hk6, hkk6⟩
      obtain ⟨m, hm, e⟩ := paired_get hpy hy6
      cases (show y = .str m.2 from e)
      have hjl : j < ys.length := (List.getElem?_eq_some_iff.mp hy6).1
      have mw := hSh.2.2 m (List.mem_filter.mp (List.mem_of_getElem? hm)).1
      have hon : (wOnM s c)[j]? = some (c.2 ++ m.2) := by unfold wOnM; rw [List.getElem?_map, hm]; rfl
      refine ⟨_, rfl, _, rfl, _, rfl, _, _, rfl, rfl, szl (by omega), d, _, rfl, DPut.k (k := Sum.inr (c.2 ++ m.2)) (v := .bl true) hk6 (big i j c kvs6 (by omega) hkk6), ?_⟩
      refine ⟨same_updN g6 hd, hjl, ⟨_, rfl⟩, by rw [upd_ne hle]; exact hla6, _, upd_same, ?_⟩
      rw [put_keys, hkk6, take_get hon, ← List.append_assoc, once_snoc, add_map (fun a b h => by injection h)]
    rintro σ H6 ⟨g6, _, ⟨x9, rfl⟩, hla6, kvs6, hk6, hkk6⟩
    refine ⟨g6, hil, ⟨_, _, _, rfl⟩, kvs6, hk6, ?_⟩
    have e : ys.length = (wOnM s c).length := by unfold wOnM; rw [List.length_map]; exact hpy.length.symm
    rw [e, List.take_length] at hkk6
    rw [flat_take _ hc]; exact hkk6
  rintro σ H4 ⟨g4, _, ⟨x7, x8, x9, rfl⟩, kvs, hkd, hkk⟩
  rw [← p2.length, List.take_length] at hkk
  have gA := ((g1.trans g2).trans g3).trans g4
  have hk2 : kvs.map (fun kv => kV kv.1) = (wordsM s Pm).map V.str := by
    have := congrArg (List.map kV) hkk
    rw [List.map_map, List.map_map] at this
    exact this
  have hkl : kvs.length < 64 := by
    have e1 := congrArg List.length hkk
    rw [List.length_map, List.length_map] at e1
    rw [e1]; exact h64 Pm hpm'
  refine ⟨_, rfl, d, kvs, wordsM s Pm, rfl, hkd, hkl, hk2, fun l ss hp hs hl => ?_⟩
  exact q Pm hpm' l ss _ (gA.trans (same_new hl _)) (gA.free hl) hp hs upd_same

theorem sc_law_cell_at : FnScope ["_law_script", "_law_k"] ["_law_script", "_law_k"] (defScope s_law_cell_at) := ⟨rfl, rfl, rfl, by decide +kernel, rfl, by decide +kernel, by decide +kernel⟩
theorem ok_law_cell_at (B : Bi mg) {c_ScribeError c_NoWay c_NoRoom c_NotPlain c_OtherSigns c_TooMany c_TwoWays c_NeverPlain c_NoText : Addr} (XB : Xb K mg c_ScribeError c_NoWay c_NoRoom c_NotPlain c_OtherSigns c_TooMany c_TwoWays c_NeverPlain c_NoText)  {f : Addr} {fd : FuncData} (F : Fun K "_law_cell_at" "_law_cell_at" s_law_cell_at f fd) : FnOk P w K mg base CX0 1 f fd ["_law_script", "_law_k"] (spCell K) := by
  refine F.ok sc_law_cell_at (fun vs H Q E h => ?_) (fun cdv A outer s H vs Q E hr h => ?_)
  · obtain ⟨a, ns, k, rfl, _⟩ := h; rfl
  obtain ⟨a, ns, k, rfl, hS, hk, q⟩ := h
  refine ⟨_, (pss_cons (ps_if (pt_cmpR op_lt (pv 1) (pe_callB (kLen (K := K)) (by rfl) B.len bt_len (pa_cons (pv 0) pa_nil)) (nomark _)) (pss_one (ps_ret (pe_ix (kIx (K := K) rIxL ix_list) (pv 0) (pv 1) (by intro _ _; rfl)))) pss_nil)
      (pss_one (ps_ret pe_int))), ?_⟩
  refine ⟨_, rfl, _, rfl, a, _, rfl, .inl hS, _, _, rfl, rfl, _, rfl, ?_⟩
  rw [List.length_map]
  refine iteDd (fun c => ?_) (fun c => ?_)
  · obtain ⟨v, h1, h2⟩ := at_some (xs := ns) hk c
    refine ⟨_, rfl, _, rfl, a, _, _, .int v, rfl, rfl, hS, ?_, ?_⟩
    · obtain ⟨j, rfl⟩ := Int.eq_ofNat_of_zero_le hk
      exact atI_nat (by rw [List.getElem?_map]; rw [Int.toNat_natCast] at h2; rw [h2]; rfl)
    · have e : cellAt ns k = v := by unfold cellAt; rw [if_pos c, h2]; rfl
      rw [← e]; exact q
  · have e : cellAt ns k = 0 := by unfold cellAt; rw [if_neg c]
    rw [e] at q
    exact q

theorem sc_law_digits_at : FnScope ["_law_script", "_law_k", "_law_cell", "_law_number"] ["_law_script", "_law_k"] (defScope s_law_digits_at) := ⟨rfl, rfl, rfl, by decide +kernel, rfl, by decide +kernel, by decide +kernel⟩
theorem ok_law_digits_at (B : Bi mg) {c_ScribeError c_NoWay c_NoRoom c_NotPlain c_OtherSigns c_TooMany c_TwoWays c_NeverPlain c_NoText : Addr} (XB : Xb K mg c_ScribeError c_NoWay c_NoRoom c_NotPlain c_OtherSigns c_TooMany c_TwoWays c_NeverPlain c_NoText) (C_law_cell_at : Cal P w K mg base "_law_cell_at" ["_law_script", "_law_k"] 1 (spCell K)) {f : Addr} {fd : FuncData} (F : Fun K "_law_digits_at" "_law_digits_at" s_law_digits_at f fd) : FnOk P w K mg base CX0 2 f fd ["_law_script", "_law_k"] (spDigits K) := by
  refine F.ok sc_law_digits_at (fun vs H Q E h => ?_) (fun cdv A outer s H vs Q E hr h => ?_)
  · obtain ⟨a, ns, k, rfl, _⟩ := h; rfl
  obtain ⟨a, ns, k, rfl, hS, hk, q⟩ := h
  refine ⟨_, (pss_cons (ps_set (i := 2) sc_law_digits_at.nd rfl (Or.inl rfl) (pe_fn C_law_cell_at hr (by decide : 1 ≤ 1) (by rfl) (pa_cons (pv 0) (pa_cons (pv 1) pa_nil))))
      (pss_cons (ps_if (pt_cmpR op_eq (pe_op op_mod (pe_op op_fdiv (pe_fn C_law_cell_at hr (by decide : 1 ≤ 1) (by rfl) (pa_cons (pv 0) (pa_cons pe_int pa_nil))) pe_int) pe_int) pe_int (nomark _)) (pss_one (ps_ret (pv 2))) pss_nil)
      (pss_cons (ps_set (i := 3) sc_law_digits_at.nd rfl (Or.inl rfl) (pe_abs (pe_op op_mod (pe_op op_add (pe_op op_add (pe_op op_mul (pv 2) pe_int) (pe_op op_mul (pv 1) pe_int)) pe_int) pe_int)))
      (pss_cons (ps_set (i := 3) sc_law_digits_at.nd rfl (Or.inl rfl) (pe_abs (pe_op op_mod (pe_op op_mul (pv 3) (pv 3)) pe_int)))
      (pss_one (ps_ret (pe_op op_add (pe_op op_mul (pv 3) pe_int) (pe_op op_mod (pe_op op_mul (pv 3) (pv 3)) pe_int)))))))), ?_⟩
  refine ⟨_, rfl, _, rfl, a, ns, k, rfl, hS, hk, ?_⟩
  refine ⟨_, rfl, a, ns, 0, rfl, hS, (by decide), _, _, rfl, rfl, ⟨by decide, by decide⟩, _, _, rfl, rfl, pz, rfl, _, rfl, ?_⟩
  refine iteDd (fun c => ?_) (fun c => ?_)
  · refine ⟨_, rfl, q _⟩
  refine ⟨fun v H' => H = H' ∧ isNum 0 2147483647 v, ⟨_, rfl, _, _, rfl, rfl, .inr ⟨by decide, by decide⟩, _, rfl, _, _, rfl, rfl, .inr ⟨by decide, by decide⟩, _, _, rfl, rfl, _, _, rfl, rfl, _, _, rfl, rfl, pz, rfl, _, rfl, by omega, by omega⟩, ?_⟩
  rintro _ _ ⟨rfl, n, rfl, h0, h1⟩
  refine ⟨fun v H' => H = H' ∧ isNum 0 2147483647 v, ⟨_, rfl, _, rfl, _, _, rfl, rfl, .inl ⟨by omega, by omega⟩, _, _, rfl, rfl, pz, rfl, _, rfl, by omega, by omega⟩, ?_⟩
  rintro _ _ ⟨rfl, m, rfl, h2, h3⟩
  refine ⟨_, rfl, _, _, rfl, rfl, .inr ⟨by decide, by decide⟩, _, rfl, _, rfl, _, _, rfl, rfl, .inl ⟨by omega, by omega⟩, _, _, rfl, rfl, pz, _, _, rfl, rfl, q _⟩

theorem sc_law_word : FnScope ["_law_cell", "_law_size", "_law_some", "_law_number", "_law_word_here", "_law_k"] ["_law_cell"] (defScope s_law_word) := ⟨rfl, rfl, rfl, by decide +kernel, rfl, by decide +kernel, by decide +kernel⟩
theorem ok_law_word (B : Bi mg) {c_ScribeError c_NoWay c_NoRoom c_NotPlain c_OtherSigns c_TooMany c_TwoWays c_NeverPlain c_NoText : Addr} (XB : Xb K mg c_ScribeError c_NoWay c_NoRoom c_NotPlain c_OtherSigns c_TooMany c_TwoWays c_NeverPlain c_NoText)  {f : Addr} {fd : FuncData} (F : Fun K "_law_word" "_law_word" s_law_word f fd) : FnOk P w K mg base CX0 1 f fd ["_law_cell"] (spWord) := by
  refine F.ok sc_law_word (fun vs H Q E h => ?_) (fun cdv A outer s H vs Q E hr h => ?_)
  · obtain ⟨a, rfl, _⟩ := h; rfl
  obtain ⟨c, rfl, q⟩ := h
  refine ⟨_, (pss_cons (ps_set (i := 1) sc_law_word.nd rfl (Or.inl rfl) (pe_op op_mod (pv 0) pe_int))
      (pss_mid (ps_if (pt_cmpR op_eq (pe_op op_mod (pv 0) pe_int) pe_int (nomark _)) (pss_one (ps_set (i := 1) sc_law_word.nd rfl (Or.inl rfl) pe_int)) pss_nil)
      (pss_cons (ps_set (i := 2) sc_law_word.nd rfl (Or.inl rfl) (pe_ix (kIx (K := K) rPick ix_pick) (pe_lst (pa_cons pe_str (pa_cons pe_str pa_nil))) (pe_callTy call_int1 (by rfl) B.int bt_int (pa_cons (pe_cmpR op_eq (pe_op op_mod (pe_op op_fdiv (pv 0) pe_int) pe_int) pe_int (nomark _)) pa_nil)) (by intro _ _; rfl)))
      (pss_cons (ps_set (i := 3) sc_law_word.nd rfl (Or.inl rfl) (pe_op op_fdiv (pv 0) pe_int))
      (pss_cons (ps_set (i := 4) sc_law_word.nd rfl (Or.inl rfl) pe_str)
      (pss_cons (ps_for PassesOwn.never (by rfl) (pi_range1 (by rfl) B.range (pa_cons (pv 1) pa_nil)) (pg_name (i := 5) sc_law_word.nd rfl (Or.inl rfl)) (pss_cons (ps_set (i := 4) sc_law_word.nd rfl (Or.inl rfl) (pe_op op_add_str (pv 4) (pe_ix ix_str (pv 2) (pe_op op_mod (pv 3) pe_int) (by intro _ _; rfl))))
      (pss_one (ps_set (i := 3) sc_law_word.nd rfl (Or.inl rfl) (pe_op op_fdiv (pv 3) pe_int)))))
      (pss_one (ps_ret (pv 4))))))))), ?_⟩
  refine ⟨_, rfl, _, _, rfl, rfl, pz, ?_⟩
  refine ⟨fun σ H' => H = H' ∧ ∃ n : Int, 0 ≤ n ∧ n ≤ 40 ∧ σ = [some (.int c), some (.int n), none, none, none, none], ?_, ?_⟩
  · refine ⟨_, rfl, _, _, rfl, rfl, pz, rfl, _, rfl, ?_⟩
    refine iteDd (fun _ => ?_) (fun _ => ?_)
    · exact ⟨rfl, _, by omega, by omega, rfl⟩
    · exact ⟨rfl, _, by omega, by omega, rfl⟩
  rintro σ H' ⟨rfl, n, h0, h1, rfl⟩
  refine ⟨szl (Nat.le_of_ble_eq_true rfl), fun p hp => ⟨_, rfl, _, _, rfl, rfl, ⟨by decide, by decide⟩, _, _, rfl, rfl, pz, rfl, .inr ⟨_, rfl, p, _, _, rfl, rfl, SqL.of upd_same, ?_, ?_, isAbc, ?_, ?_⟩⟩⟩
  · split <;> decide
  · split <;> decide
  · intro v hv
    simp only [List.mem_cons, List.not_mem_nil, or_false] at hv
    rcases hv with rfl | rfl <;> exact ⟨_, rfl, by decide +kernel, by decide +kernel⟩
  rintro _ ⟨z, rfl, hz, hzl⟩
  refine ⟨_, rfl, _, _, rfl, rfl, ⟨by decide, by decide⟩, ?_⟩
  have g1 := same_new hp (.lst [V.str "abz", V.str "xkb"])
  generalize upd H p (.lst [V.str "abz", V.str "xkb"]) = H1 at g1 ⊢
  refine ⟨_, rfl, _, rfl, by omega, by omega, ?_⟩
  
  refine for_range (fun i σ H' => H1 = H' ∧ ∃ (r : Int) (x : Str) (y : Option V), x.length = i ∧ (∀ c ∈ cl x, 97 ≤ c ∧ c ≤ 122) ∧ σ = [some (.int c), some (.int n), some (.str z), some (.int r), some (.str x), y]) ⟨rfl, _, "", _, rfl, cl_nil, rfl⟩ ?_ ?_
  · rintro i σ H' hi ⟨rfl, r2, x, y, hx, hxl, rfl⟩
    obtain ⟨c', hc, hm⟩ := at_mem (xs := cl z) (i := r2 % 3) (by omega) (by rw [cl_length, hz]; omega)
    refine ⟨_, rfl, _, rfl, _, rfl, _, _, rfl, rfl, pz, z, _, c', rfl, rfl, szl (by omega), hc, _, _, rfl, rfl, szl (by rw [hx, one_len]; omega), ?_⟩
    refine ⟨_, rfl, _, _, rfl, rfl, ⟨by decide, by decide⟩, ?_⟩
    refine ⟨rfl, _, _, _, ?_, ?_, rfl⟩
    · rw [len_app, hx]; rfl
    · intro c1 h1
      rw [cl_append] at h1
      rcases List.mem_append.mp h1 with h1 | h1
      · exact hxl c1 h1
      · rw [cl_one, List.mem_singleton] at h1
        subst h1; exact hzl c1 hm
  · rintro σ H' ⟨rfl, r2, x, y, hx, hxl, rfl⟩
    refine ⟨_, rfl, ?_⟩
    exact q x _ ⟨by omega, hxl⟩ g1

theorem sc_law_scribe : FnScope ["_law_script", "_law_at", "_law_plain_here", "_law_first", "_law_signs", "_law_rooms", "_law_begins", "_law_steps", "_law_ends", "_law_k", "_law_number", "_law_way", "_law_room", "_law_sign", "_law_word_here", "_law_step"] ["_law_script", "_law_at", "_law_plain_here"] (defScope s_law_scribe) := ⟨rfl, rfl, rfl, by decide +kernel, rfl, by decide +kernel, by decide +kernel⟩
theorem ok_law_scribe (B : Bi mg) {c_ScribeError c_NoWay c_NoRoom c_NotPlain c_OtherSigns c_TooMany c_TwoWays c_NeverPlain c_NoText : Addr} (XB : Xb K mg c_ScribeError c_NoWay c_NoRoom c_NotPlain c_OtherSigns c_TooMany c_TwoWays c_NeverPlain c_NoText) (C_law_cell_at : Cal P w K mg base "_law_cell_at" ["_law_script", "_law_k"] 1 (spCell K)) (C_law_digits_at : Cal P w K mg base "_law_digits_at" ["_law_script", "_law_k"] 2 (spDigits K)) (C_law_word : Cal P w K mg base "_law_word" ["_law_cell"] 1 (spWord)) {f : Addr} {fd : FuncData} (F : Fun K "_law_scribe" "_law_scribe" s_law_scribe f fd) : FnOk P w K mg base CX0 3 f fd ["_law_script", "_law_at", "_law_plain_here"] (spScribe K) := by
  refine F.ok sc_law_scribe (fun vs H Q E h => ?_) (fun cdv A outer s H vs Q E hr h => ?_)
  · obtain ⟨a, ns, at_, pl, rfl, _⟩ := h; rfl
  obtain ⟨a, ns, at_, pl, rfl, hS, h63, h0, h1, q⟩ := h
  refine ⟨_, (pss_cons (ps_set (i := 3) sc_law_scribe.nd rfl (Or.inl rfl) (pe_fn C_law_cell_at hr (by decide : 1 ≤ 2) (by rfl) (pa_cons (pv 0) (pa_cons (pv 1) pa_nil))))
      (pss_cons (ps_set (i := 4) sc_law_scribe.nd rfl (Or.inl rfl) (pe_abs (pe_ix (kIx (K := K) rPick ix_pick) (pe_lst (pa_cons pe_str (pa_cons pe_str (pa_cons pe_str (pa_cons pe_str (pa_cons pe_str (pa_cons pe_str (pa_cons pe_str pa_nil)))))))) (pe_op op_mod (pv 3) pe_int) (by intro _ _; rfl))))
      (pss_cons (ps_set (i := 5) sc_law_scribe.nd rfl (Or.inl rfl) (pe_abs (pe_op op_mod (pe_op op_fdiv (pv 3) pe_int) (pe_ix (kIx (K := K) rPick ix_pick) (pe_lst (pa_cons pe_int (pa_cons pe_int pa_nil))) (pe_callTy call_int1 (by rfl) B.int bt_int (pa_cons (pe_not (pv 2)) pa_nil)) (by intro _ _; rfl)))))
      (pss_mid (ps_if (pt_abs (PW.pt (pw_and (pt_val (pv 2)) (pw_and1 (pt_cmpR op_eq (pe_op op_mod (pe_op op_fdiv (pv 3) pe_int) pe_int) pe_int (nomark _)))))) (pss_one (ps_set (i := 5) sc_law_scribe.nd rfl (Or.inl rfl) (pe_abs (pe_op op_add pe_int (pe_op op_mod (pe_op op_fdiv (pv 3) pe_int) pe_int))))) pss_nil)
      (pss_cons (ps_set (i := 6) sc_law_scribe.nd rfl (Or.inl rfl) (pe_lst pa_nil))
      (pss_cons (ps_set (i := 7) sc_law_scribe.nd rfl (Or.inl rfl) (pe_lst pa_nil))
      (pss_cons (ps_set (i := 8) sc_law_scribe.nd rfl (Or.inl rfl) (pe_lst pa_nil))
      (pss_cons (ps_for PassesOwn.never (by rfl) (pi_range2 (by rfl) B.range (pa_cons (pe_op op_add (pv 1) pe_int) (pa_cons (pe_callB (call_min2 (by rfl)) (by rfl) B.min bt_min (pa_cons (pe_op op_add (pv 1) pe_int) (pa_cons (pe_callB (kLen (K := K)) (by rfl) B.len bt_len (pa_cons (pv 0) pa_nil)) pa_nil))) pa_nil))) (pg_name (i := 9) sc_law_scribe.nd rfl (Or.inl rfl)) (pss_cons (ps_set (i := 10) sc_law_scribe.nd rfl (Or.inl rfl) (pe_abs (pe_fn C_law_digits_at hr (by decide : 2 ≤ 2) (by rfl) (pa_cons (pv 0) (pa_cons (pv 9) pa_nil)))))
      (pss_cons (ps_set (i := 11) sc_law_scribe.nd rfl (Or.inl rfl) (pe_op op_mod (pv 10) pe_int))
      (pss_cons (ps_set (i := 12) sc_law_scribe.nd rfl (Or.inr rfl) (pe_abs (pe_op op_mod (pe_op op_fdiv (pv 10) pe_int) (pe_callB (call_max2 (by rfl)) (by rfl) B.max bt_max (pa_cons pe_int (pa_cons (pv 5) pa_nil))))))
      (pss_cons (ps_set (i := 10) sc_law_scribe.nd rfl (Or.inl rfl) (pe_abs (pe_op op_fdiv (pe_op op_fdiv (pv 10) pe_int) (pe_callB (call_max2 (by rfl)) (by rfl) B.max bt_max (pa_cons pe_int (pa_cons (pv 5) pa_nil))))))
      (pss_cons (ps_set (i := 13) sc_law_scribe.nd rfl (Or.inl rfl) (pe_abs (pe_ix ix_str (pv 4) (pe_op op_mod (pv 10) (pe_callB call_len_str (by rfl) B.len bt_len (pa_cons (pv 4) pa_nil))) (by intro _ _; rfl))))
      (pss_cons (ps_set (i := 10) sc_law_scribe.nd rfl (Or.inl rfl) (pe_abs (pe_op op_fdiv (pv 10) (pe_callB call_len_str (by rfl) B.len bt_len (pa_cons (pv 4) pa_nil)))))
      (pss_cons (ps_set (i := 14) sc_law_scribe.nd rfl (Or.inl rfl) (pe_fn C_law_word hr (by decide : 1 ≤ 2) (by rfl) (pa_cons (pe_op op_fdiv (pv 10) (pe_callB (call_max2 (by rfl)) (by rfl) B.max bt_max (pa_cons pe_int (pa_cons (pv 5) pa_nil)))) pa_nil)))
      (pss_cons (ps_set (i := 15) sc_law_scribe.nd rfl (Or.inr rfl) (pe_tup (pa_cons (pv 12) (pa_cons (pv 13) (pa_cons (pv 14) (pa_cons (pe_op op_mod (pv 10) (pe_callB (call_max2 (by rfl)) (by rfl) B.max bt_max (pa_cons pe_int (pa_cons (pv 5) pa_nil)))) pa_nil))))))
      (pss_mid (ps_if (pt_abs (PW.pt (pw_and (pt_cmpR op_gt (pv 5) pe_int (nomark _)) (pw_and (pt_cmpR op_lt (pv 11) pe_int (nomark _)) (pw_and1 (pt_cmpR (kOp (K := K) (rInD · true) (op_notInD hr.units)) (pv 15) (pv 7) rfl)))))) (pss_one (ps_if (pt_abs (PW.pt (pw_or (pt_not (pt_val (pv 2))) (pw_or1 (pt_cmpR op_eq (pe_callB (kLen (K := K)) (by rfl) B.len bt_len (pa_cons (pe_comp rfl (blk_mk (N' := ["_law_one", "_law_step"]) (js := [none, some 15]) rfl (by decide +kernel) rfl (by decide +kernel) rfl rfl) (kPI (K := K) (fun k => iList k _) (pi_list (pv 7))) (fun _ _ _ _ _ => (pg_name (i := 0) (show List.Nodup (["_law_one", "_law_step"] : List Str) by decide +kernel) rfl (Or.inl rfl))) (fun _ _ _ _ _ => (pf_one (pt_cmpR (kOp (K := K) rEqD (op_eqD hr.units)) (pe_slice (kSl (K := K) rSlT sl_tup) (pv 0) po_none (po_some pe_int)) (pe_slice (kSl (K := K) rSlT sl_tup) (pv 1) po_none (po_some pe_int)) (nomark _)))) (fun _ _ _ _ _ => (pv 0))) pa_nil)) pe_int (nomark _)))))) (pss_one (ps_expr (kPE (K := K) (fun k => tBM k _ _ _ _) (pe_bm PySem.F.plainAttrs_list PySem.F.slot_list_append PySem.F.type_list_append mt_append (pv 7) (pa_cons (pv 15) pa_nil))))) pss_nil)) pss_nil)
      (pss_mid (ps_if (pt_abs (PW.pt (pw_and (pt_cmpR op_gt (pv 5) pe_int (nomark _)) (pw_and (pt_cmpR op_eq (pv 11) pe_int (nomark _)) (pw_and1 (pt_cmpR (kOp (K := K) (rInD · true) (op_notInD hr.units)) (pe_tup (pa_cons (pv 12) (pa_cons (pv 14) pa_nil))) (pv 8) rfl)))))) (pss_one (ps_if (pt_abs (PW.pt (pw_or (pt_not (pt_val (pv 2))) (pw_or1 (pt_cmpR op_eq (pe_callB (kLen (K := K)) (by rfl) B.len bt_len (pa_cons (pe_comp rfl (blk_mk (N' := ["_law_one", "_law_room"]) (js := [none, some 12]) rfl (by decide +kernel) rfl (by decide +kernel) rfl rfl) (kPI (K := K) (fun k => iList k _) (pi_list (pv 8))) (fun _ _ _ _ _ => (pg_name (i := 0) (show List.Nodup (["_law_one", "_law_room"] : List Str) by decide +kernel) rfl (Or.inl rfl))) (fun _ _ _ _ _ => (pf_one (pt_cmpR op_eq (pe_ix (kIx (K := K) rIxT ix_tup) (pv 0) pe_int (by intro _ _; rfl)) (pv 1) (nomark _)))) (fun _ _ _ _ _ => (pv 0))) pa_nil)) pe_int (nomark _)))))) (pss_one (ps_expr (kPE (K := K) (fun k => tBM k _ _ _ _) (pe_bm PySem.F.plainAttrs_list PySem.F.slot_list_append PySem.F.type_list_append mt_append (pv 8) (pa_cons (pe_tup (pa_cons (pv 12) (pa_cons (pv 14) pa_nil))) pa_nil))))) pss_nil)) pss_nil)
      (pss_one (ps_if (pt_abs (PW.pt (pw_and (pt_cmpR op_gt (pv 5) pe_int (nomark _)) (pw_and (pt_cmpR op_eq (pv 11) pe_int (nomark _)) (pw_and (pt_cmpR (kOp (K := K) (rInD · true) (op_notInD hr.units)) (pe_tup (pa_cons (pv 12) (pa_cons (pv 14) pa_nil))) (pv 6) rfl) (pw_and1 (PW.pt (pw_or (pt_cmpR op_eq (pe_callB (kLen (K := K)) (by rfl) B.len bt_len (pa_cons (pv 6) pa_nil)) pe_int (nomark _)) (pw_or1 (pt_not (pt_val (pv 2)))))))))))) (pss_one (ps_expr (kPE (K := K) (fun k => tBM k _ _ _ _) (pe_bm PySem.F.plainAttrs_list PySem.F.slot_list_append PySem.F.type_list_append mt_append (pv 6) (pa_cons (pe_tup (pa_cons (pv 12) (pa_cons (pv 14) pa_nil))) pa_nil))))) pss_nil)))))))))))))
      (pss_mid (ps_if (pt_abs (PW.pt (pw_and (pt_cmpR op_gt (pv 5) pe_int (nomark _)) (pw_and (pt_cmpR op_eq (pe_callB (kLen (K := K)) (by rfl) B.len bt_len (pa_cons (pv 6) pa_nil)) pe_int (nomark _)) (pw_and1 (pt_cmpR op_gt (pe_op op_mod (pe_op op_fdiv (pv 3) pe_int) pe_int) pe_int (nomark _))))))) (pss_one (ps_expr (kPE (K := K) (fun k => tBM k _ _ _ _) (pe_bm PySem.F.plainAttrs_list PySem.F.slot_list_append PySem.F.type_list_append mt_append (pv 6) (pa_cons (pe_tup (pa_cons (pe_op op_mod (pe_op op_fdiv (pv 3) pe_int) (pv 5)) (pa_cons (pe_fn C_law_word hr (by decide : 1 ≤ 2) (by rfl) (pa_cons (pe_op op_fdiv (pv 3) pe_int) pa_nil)) pa_nil))) pa_nil))))) pss_nil)
      (pss_mid (ps_if (pt_abs (PW.pt (pw_and (pt_cmpR op_gt (pv 5) pe_int (nomark _)) (pw_and (pt_cmpR op_eq (pe_callB (kLen (K := K)) (by rfl) B.len bt_len (pa_cons (pv 8) pa_nil)) pe_int (nomark _)) (pw_and1 (pt_cmpR op_gt (pe_op op_mod (pe_op op_fdiv (pv 3) pe_int) pe_int) pe_int (nomark _))))))) (pss_one (ps_expr (kPE (K := K) (fun k => tBM k _ _ _ _) (pe_bm PySem.F.plainAttrs_list PySem.F.slot_list_append PySem.F.type_list_append mt_append (pv 8) (pa_cons (pe_tup (pa_cons (pe_op op_mod (pe_op op_fdiv (pv 3) pe_int) (pv 5)) (pa_cons (pe_fn C_law_word hr (by decide : 1 ≤ 2) (by rfl) (pa_cons (pe_op op_fdiv (pv 3) pe_int) pa_nil)) pa_nil))) pa_nil))))) pss_nil)
      (pss_one (ps_ret (pe_tup (pa_cons (pv 4) (pa_cons (pv 5) (pa_cons (pv 6) (pa_cons (pv 7) (pa_cons (pv 8) pa_nil)))))))))))))))))), ?_⟩
  refine ⟨_, rfl, _, rfl, a, ns, at_, rfl, hS, h0, ?_⟩
  generalize cellAt ns at_ = fi
  refine ⟨fun v H' => Same H H' ∧ isSgn v, ⟨szl (Nat.le_of_ble_eq_true rfl), fun p hp => ⟨_, rfl, _, _, rfl, rfl, pz, p, _, _, rfl, rfl, SqL.of upd_same, by omega, (by show fi % 7 < 7; omega), isSgn, ?_, fun v hv => ⟨same_new hp _, hv⟩⟩⟩, ?_⟩
  · intro v hv
    simp only [List.mem_cons, List.not_mem_nil, or_false] at hv
    rcases hv with rfl | rfl | rfl | rfl | rfl | rfl | rfl <;> exact ⟨_, rfl, by unfold SgnOk; decide +kernel⟩
  rintro _ H1 ⟨g1, g, rfl, hg1, hg2, hg3, hg4⟩
  refine ⟨fun v H' => Same H1 H' ∧ isNum 0 14 v, ⟨_, rfl, _, _, rfl, rfl, ⟨by decide, by decide⟩, szl (Nat.le_of_ble_eq_true rfl), fun p hp => ⟨_, rfl, _, rfl, .inr ⟨_, rfl, p, _, _, rfl, rfl, SqL.of upd_same, ?_, ?_, isNum 5 9, ?_, ?_⟩⟩⟩, ?_⟩
  · split <;> decide
  · split <;> decide
  · intro v hv
    simp only [List.mem_cons, List.not_mem_nil, or_false] at hv
    rcases hv with rfl | rfl <;> exact ⟨_, rfl, by decide, by decide⟩
  · rintro _ ⟨m, rfl, h5, h9⟩
    have hm : 0 < m := by omega
    have hm1 := Int.emod_nonneg (fi / 7) (show m ≠ 0 by omega)
    have hm2 := Int.emod_lt_of_pos (fi / 7) hm
    exact ⟨_, _, rfl, rfl, hm, same_new hp _, _, rfl, hm1, by omega⟩
  rintro _ H2 ⟨g2, r, rfl, hr0, hr1⟩
  refine ⟨fun σ H' => H2 = H' ∧ ∃ r : Int, 0 ≤ r ∧ r ≤ 14 ∧ σ = [some (.ref a), some (.int at_), some (.bl pl), some (.int fi), some (.str g), some (.int r), none, none, none, none, none, none, none, none, none, none], ?_, ?_⟩
  · refine ⟨fun _ H' => H2 = H', ?_, ?_⟩
    · refine ⟨_, rfl, _, rfl, iteB (fun _ => ?_) (fun _ => rfl)⟩
      exact ⟨_, rfl, _, _, rfl, rfl, ⟨by decide, by decide⟩, _, _, rfl, rfl, pz, rfl, _, rfl, rfl⟩
    · rintro b _ rfl
      refine iteB (fun _ => ?_) (fun _ => ?_)
      · refine ⟨fun v H' => H2 = H' ∧ isNum 0 14 v, ⟨_, rfl, _, _, rfl, rfl, ⟨by decide, by decide⟩, _, _, rfl, rfl, pz, _, _, rfl, rfl, rfl, _, rfl, by omega, by omega⟩, ?_⟩
        rintro _ _ ⟨rfl, m, rfl, k0, k1⟩
        exact ⟨rfl, m, k0, k1, rfl⟩
      · exact ⟨rfl, r, hr0, hr1, rfl⟩
  clear hr0 hr1 r
  rintro σ H' ⟨rfl, r, hr0, hr1, rfl⟩
  
  refine ⟨szl (Nat.le_of_ble_eq_true rfl), fun pb hpb => ?_⟩
  refine ⟨szl (Nat.le_of_ble_eq_true rfl), fun ps hps => ?_⟩
  refine ⟨szl (Nat.le_of_ble_eq_true rfl), fun pe hpe => ?_⟩
  have G0 : Same H H2 := g1.trans g2
  have hps' : H2 ps = none := (same_new hpb _).free hps
  have hpe' : upd H2 pb (.lst []) pe = none := (same_new hps _).free hpe
  have AP : Apart H pb ps pe := ⟨G0.free hpb, G0.free hps', G0.free ((same_new hpb _).free hpe'), ne_of_none upd_same hps, ne_of_none upd_same hpe', ne_of_none upd_same hpe⟩
  have HI0 : HI K H pb ps pe pl g r 0 (upd (upd (upd H2 pb (.lst [])) ps (.lst [])) pe (.lst [])) :=
    ⟨[], [], [], [], [], [], ((G0.trans (same_new hpb _)).trans (same_new hps _)).trans (same_new hpe _), by rw [upd_ne AP.be, upd_ne AP.bs]; exact upd_same, by rw [upd_ne AP.se]; exact upd_same, upd_same, .nil, .nil, .nil,
      ⟨Nat.zero_le _, Nat.zero_le _, Nat.zero_le _, by simp, by simp, by simp, by simp, by simp, by simp, fun _ => Nat.zero_le _, fun _ => by simp, fun _ => by simp⟩⟩
  generalize upd (upd (upd H2 pb (.lst [])) ps (.lst [])) pe (.lst []) = H3 at HI0 ⊢
  have hS3 : SqL K H3 a (ns.map V.int) := by obtain ⟨_, _, _, _, _, _, z, _⟩ := HI0; exact z.seq hS
  refine ⟨_, rfl, _, _, rfl, rfl, _, rfl, _, _, rfl, rfl, _, rfl, a, _, rfl, .inl hS3, _, _, rfl, _, _, rfl, ⟨?_, ?_, ?_, ?_⟩, ?_⟩
  · show -(2 ^ 62) ≤ at_ + 1; omega
  · show at_ + 1 < 2 ^ 62; omega
  · rw [List.length_map]
    show -(2 ^ 62 : Int) ≤ if (ns.length : Int) < at_ + 32 then (ns.length : Int) else at_ + 32
    split <;> omega
  · rw [List.length_map]
    show (if (ns.length : Int) < at_ + 32 then (ns.length : Int) else at_ + 32) < 2 ^ 62
    split <;> omega
  rw [List.length_map]
  have hturns : ((if (ns.length : Int) < at_ + 32 then (ns.length : Int) else at_ + 32) - (at_ + 1)).toNat ≤ 31 := by split <;> omega
  refine for_range (fun i σ H' => HI K H pb ps pe pl g r (3 * i) H' ∧ ∃ x9 x10 x11 x12 x13 x14 x15, σ = [some (.ref a), some (.int at_), some (.bl pl), some (.int fi), some (.str g), some (.int r), some (.ref pb), some (.ref ps), some (.ref pe), x9, x10, x11, x12, x13, x14, x15]) ⟨HI0, _, _, _, _, _, _, _, rfl⟩ ?_ ?_
  · rintro i σ H4 hi ⟨hI, x9, x10, x11, x12, x13, x14, x15, rfl⟩
    have hi31 : i < 31 := Nat.lt_of_lt_of_le hi hturns
    have hS4 : SqL K H4 a (ns.map V.int) := by obtain ⟨_, _, _, _, _, _, z, _⟩ := hI; exact z.seq hS
    refine ⟨fun v H' => H4 = H' ∧ ∃ n : Int, v = .int n, ⟨_, rfl, _, rfl, a, ns, _, rfl, hS4, by omega, fun n => ⟨rfl, n, rfl⟩⟩, ?_⟩
    rintro _ _ ⟨rfl, n1, rfl⟩
    refine ⟨_, rfl, _, _, rfl, rfl, pz, ?_⟩
    have hmx : 0 < (if r > 1 then r else 1) ∧ (if r > 1 then r else 1) < 1073741824 := by split <;> omega
    refine ⟨fun v H' => H4 = H' ∧ ∃ n : Int, v = .int n ∧ 0 ≤ n ∧ (0 < r → n < r), ⟨_, rfl, _, _, rfl, rfl, ⟨by decide, by decide⟩, _, rfl, _, _, rfl, _, _, rfl, rfl, hmx.1, rfl, _, rfl, modmax _ hr0⟩, ?_⟩
    rintro _ _ ⟨rfl, ro, rfl, ro0, ro1⟩
    refine ⟨fun v H' => H4 = H' ∧ ∃ n : Int, v = .int n, ⟨_, rfl, _, _, rfl, rfl, ⟨by decide, by decide⟩, _, rfl, _, _, rfl, _, _, rfl, rfl, hmx, rfl, _, rfl⟩, ?_⟩
    rintro _ _ ⟨rfl, n2, rfl⟩
    have hgl : (0 : Int) < g.length ∧ (g.length : Int) < 1073741824 := by omega
    refine ⟨fun v H' => H4 = H' ∧ ∃ c ∈ cl g, v = .str ⟨#[c]⟩, ?_, ?_⟩
    · obtain ⟨c, hc, hm⟩ := at_mem (xs := cl g) (i := n2 % (g.length : Int)) (Int.emod_nonneg _ (by omega)) (by rw [cl_length]; exact Int.emod_lt_of_pos _ hgl.1)
      exact ⟨_, rfl, _, rfl, _, rfl, g, rfl, szl (by omega), _, _, rfl, rfl, hgl.1, g, _, c, rfl, rfl, szl (by omega), hc, rfl, c, hm, rfl⟩
    rintro _ _ ⟨rfl, sg, hsg, rfl⟩
    refine ⟨fun v H' => H4 = H' ∧ ∃ n : Int, v = .int n, ⟨_, rfl, _, rfl, g, rfl, szl (by omega), _, _, rfl, rfl, hgl, rfl, _, rfl⟩, ?_⟩
    rintro _ _ ⟨rfl, n3, rfl⟩
    refine ⟨_, rfl, _, rfl, _, _, rfl, _, _, rfl, rfl, hmx, _, rfl, fun wd H5 hwd g5 => ?_⟩
    obtain ⟨to0, to1⟩ := modmax n3 hr0
    refine ⟨_, rfl, _, rfl, _, rfl, _, rfl, _, rfl, _, _, rfl, _, _, rfl, rfl, hmx.1, (by show 4 ≤ sizeLine; decide), fun t ht => ?_⟩
    dsimp only
    generalize n3 % (if r > 1 then r else 1) = to at to0 to1 ⊢
    have hI6 : HI K H pb ps pe pl g r (3 * i) (upd H5 t (.tup [.int ro, .str ⟨#[sg]⟩, .str wd, .int to])) := hI.mono (g5.trans (same_new ht _)) (Nat.le_refl _)
    have hT6 : SqT K (upd H5 t (.tup [.int ro, .str ⟨#[sg]⟩, .str wd, .int to])) t [.int ro, .str ⟨#[sg]⟩, .str wd, .int to] := SqT.of upd_same
    generalize upd H5 t (.tup [.int ro, .str ⟨#[sg]⟩, .str wd, .int to]) = H6 at hI6 hT6 ⊢
    obtain ⟨B, S, E', xb, xs, xe, i1, i2, i3, i4, i5, i6, i7, i8⟩ := hI6
    -- a step
    refine ⟨fun σ' H' => [some (.ref a), some (.int at_), some (.bl pl), some (.int fi), some (.str g), some (.int r), some (.ref pb), some (.ref ps), some (.ref pe), some (.int (at_ + 1 + (i : Int))), some (.int n3), some (.int (n1 % 6)), some (.int ro), some (.str ⟨#[sg]⟩), some (.str wd), some (.ref t)] = σ' ∧ HI K H pb ps pe pl g r (3 * i + 1) H' ∧ SqT K H' t [.int ro, .str ⟨#[sg]⟩, .str wd, .int to], ?_, ?_⟩
    · have stay : ∀ H', Same H6 H' → HI K H pb ps pe pl g r (3 * i + 1) H' := fun H' g' => HI.mono ⟨B, S, E', xb, xs, xe, i1, i2, i3, i4, i5, i6, i7, i8⟩ g' (by omega)
      refine ⟨fun b H' => H6 = H' ∧ (b = true → 0 < r ∧ (ro, (⟨#[sg]⟩ : Str), wd, to) ∉ S), ?_, ?_⟩
      · refine ⟨_, rfl, _, _, rfl, rfl, _, rfl, iteDd (fun c1 => ?_) (fun _ => ⟨rfl, fun z => nomatch z⟩)⟩
        refine ⟨_, rfl, _, _, rfl, rfl, _, rfl, iteDd (fun _ => ?_) (fun _ => ⟨rfl, fun z => nomatch z⟩)⟩
        refine ⟨_, rfl, _, rfl, dSt (ro, ⟨#[sg]⟩, wd, to), ps, xs, S.map dSt, StV.rep ⟨t, rfl, hT6⟩, rfl, SqL.of i3, reps_st i6, Nat.le_trans (deeps_map dSt 1 deep_dSt S) (by decide), _, rfl, rfl, fun z => ⟨c1, ?_⟩⟩
        have z' : (!((S.map dSt).any fun e => eqD e (dSt (ro, ⟨#[sg]⟩, wd, to)))) = true := z
        rw [any_mem dSt eqD_dSt] at z'
        simpa using z'
      · rintro b _ ⟨rfl, hb⟩
        refine iteB (fun hbt => ?_) (fun _ => ⟨rfl, stay _ (Same.refl _), hT6⟩)
        obtain ⟨hr2, hnS⟩ := hb hbt
        refine ⟨fun b H' => Same H6 H' ∧ (b = true → pl = true → ∀ t' ∈ S, ¬ (t'.1 = ro ∧ t'.2.1 = ⟨#[sg]⟩)), ?_, ?_⟩
        · refine ⟨_, rfl, _, rfl, iteB (fun hn => ⟨Same.refl _, fun _ h => by rw [h] at hn; cases hn⟩) (fun _ => ?_)⟩
          refine ⟨_, rfl, ps, rfl, ⟨xs, SqL.of i3⟩, ?_⟩
          refine comp_list (xs := xs) (fun j ys τ H' => Same H6 H' ∧ (∃ x, τ = [x, some (.ref t)]) ∧ j ≤ xs.length ∧ ys.length ≤ j ∧ (ys = [] → ∀ t' ∈ S.take j, ¬ (t'.1 = ro ∧ t'.2.1 = ⟨#[sg]⟩))) ⟨Same.refl _, ⟨_, rfl⟩, Nat.zero_le _, Nat.zero_le _, fun _ t' ht' => by simp at ht'⟩ (fun j ys τ H' z => z.1.seq (SqL.of i3)) ?_ ?_
          · rintro j x ys τ H7 hx ⟨g7, ⟨y, rfl⟩, hj, hyl, hyn⟩
            obtain ⟨t', ht', b', rfl, hb'⟩ := paired_get i6 hx
            have hjl : j < xs.length := (List.getElem?_eq_some_iff.mp hx).1
            have hb7 := (Same.grow g7).seqT hb'
            have hT7 := (Same.grow g7).seqT hT6
            have hx31 : xs.length ≤ 93 := by have := i6.length; have : S.length ≤ 3 * i := i8.ls; omega
            refine ⟨_, rfl, _, rfl, b', _, rfl, hb7, (show ¬ (0 = 0 ∧ 2 = 4) by decide), fun p1 hp1 => ?_⟩
            have hT8 := (grow_new hp1 (.tup (cutV [V.int t'.1, V.str t'.2.1, V.str t'.2.2.1, V.int t'.2.2.2] none (some 2)))).seqT hT7
            refine ⟨_, rfl, _, rfl, t, _, rfl, hT8, (show ¬ (0 = 0 ∧ 2 = 4) by decide), fun p2 hp2 => ?_⟩
            have e1 := (grow_new hp2 (.tup (cutV [V.int ro, V.str ⟨#[sg]⟩, V.str wd, V.int to] none (some 2)))).seqT (SqT.of (K := K) (upd_same (H := H7) (a := p1) (o := .tup (cutV [V.int t'.1, V.str t'.2.1, V.str t'.2.2.1, V.int t'.2.2.2] none (some 2)))))
            refine ⟨.tup [.int t'.1, .str t'.2.1], .tup [.int ro, .str ⟨#[sg]⟩], rep_tup e1 (.cons (rep_int _) (.cons (rep_str _) .nil)), rep_tup (SqT.of upd_same) (.cons (rep_int _) (.cons (rep_str _) .nil)), (by simp [deep, deeps]), _, rfl, ?_⟩
            rw [eq2]
            have g9 := (g7.trans (same_new hp1 (.tup (cutV [V.int t'.1, V.str t'.2.1, V.str t'.2.2.1, V.int t'.2.2.2] none (some 2))))).trans (same_new hp2 (.tup (cutV [V.int ro, V.str ⟨#[sg]⟩, V.str wd, V.int to] none (some 2))))
            refine iteDd (fun c => ?_) (fun c => ?_)
            · refine ⟨_, rfl, szl' (by omega), g9, ⟨_, rfl⟩, hjl, by rw [List.length_append, List.length_singleton]; omega, fun z => absurd z (by simp)⟩
            · refine ⟨g9, ⟨_, rfl⟩, hjl, by omega, fun z t'' h'' => ?_⟩
              rw [take_get ht'] at h''
              rcases List.mem_append.mp h'' with h'' | h''
              · exact hyn z t'' h''
              · rw [List.mem_singleton.mp h'']; exact c
          · rintro ys τ H7 ⟨g7, _, _, hyl, hyn⟩ p hp
            refine ⟨p, ys, rfl, .inl (SqL.of upd_same), rfl, _, rfl, g7.trans (same_new hp _), fun z _ => ?_⟩
            have hy0 : ys = [] := by
              have := of_decide_eq_true z
              injection this with this
              exact List.eq_nil_of_length_eq_zero (by omega)
            have := hyn hy0
            rw [← i6.length, List.take_length] at this
            exact this
        · rintro b H7 ⟨g7, hb7⟩
          have hT7 := (Same.grow g7).seqT hT6
          refine iteB (fun hbt2 => ?_) (fun _ => ⟨rfl, stay _ g7, hT7⟩)
          have hlx : xs.length < sizeLine := by have := i6.length; have : S.length ≤ 3 * i := i8.ls; exact szl' (by omega)
          refine ⟨_, rfl, .inl ⟨rfl, _, SqL.of (g7 _ _ i3)⟩, _, rfl, ps, xs, .ref t, rfl, rfl, g7 _ _ i3, hlx, rfl, ?_, (grow_upd (g7 _ _ i3) _).seqT hT7⟩
          exact HI.addStep AP (i1.trans g7) (g7 _ _ i2) (g7 _ _ i3) (g7 _ _ i4) (paired_mono (fun _ _ => MkV.mono (Same.grow g7)) i5) (paired_mono (fun _ _ => StV.mono (Same.grow g7)) i6) (paired_mono (fun _ _ => MkV.mono (Same.grow g7)) i7)
            (i8.step ro0 (ro1 hr2) ⟨sg, hsg, rfl⟩ hwd to0 (to1 hr2) hnS (hb7 hbt2)) ⟨t, rfl, hT7⟩
    clear i1 i2 i3 i4 i5 i6 i7 i8 B S E' xb xs xe
    rintro _ H7 ⟨rfl, hI7, hT7⟩
    obtain ⟨B, S, E', xb, xs, xe, i1, i2, i3, i4, i5, i6, i7, i8⟩ := hI7
    -- an end
    refine ⟨fun σ' H' => [some (.ref a), some (.int at_), some (.bl pl), some (.int fi), some (.str g), some (.int r), some (.ref pb), some (.ref ps), some (.ref pe), some (.int (at_ + 1 + (i : Int))), some (.int n3), some (.int (n1 % 6)), some (.int ro), some (.str ⟨#[sg]⟩), some (.str wd), some (.ref t)] = σ' ∧ HI K H pb ps pe pl g r (3 * i + 2) H', ?_, ?_⟩
    · have stay : ∀ H', Same H7 H' → HI K H pb ps pe pl g r (3 * i + 2) H' := fun H' g' => HI.mono ⟨B, S, E', xb, xs, xe, i1, i2, i3, i4, i5, i6, i7, i8⟩ g' (by omega)
      refine ⟨fun b H' => Same H7 H' ∧ (b = true → 0 < r ∧ (ro, wd) ∉ E'), ?_, ?_⟩
      · refine ⟨_, rfl, _, _, rfl, rfl, _, rfl, iteDd (fun c1 => ?_) (fun _ => ⟨Same.refl _, fun z => nomatch z⟩)⟩
        refine ⟨_, rfl, rfl, _, rfl, iteDd (fun _ => ?_) (fun _ => ⟨Same.refl _, fun z => nomatch z⟩)⟩
        refine ⟨_, rfl, _, rfl, (by show 2 ≤ sizeLine; decide), fun p hp => ?_⟩
        have gp := same_new hp (.tup [V.int ro, V.str wd])
        refine ⟨_, rfl, dMk (ro, wd), pe, xe, E'.map dMk, MkV.rep ⟨p, rfl, SqT.of upd_same⟩, rfl, SqL.of (gp _ _ i4), notIn_mk (m := (ro, wd)) (paired_mono (fun _ _ => MkV.mono (Same.grow gp)) i7), Nat.le_trans (deeps_map dMk 1 deep_dMk E') (by decide), _, rfl, gp, fun z => ⟨c1, ?_⟩⟩
        have z' : (!((E'.map dMk).any fun e => eqD e (dMk (ro, wd)))) = true := z
        rw [any_mem dMk eqD_dMk] at z'
        simpa using z'
      · rintro b H8 ⟨g8, hb⟩
        refine iteB (fun hbt => ?_) (fun _ => ⟨rfl, stay _ g8⟩)
        obtain ⟨hr2, hnE⟩ := hb hbt
        have i7' : Paired (MkV K H8) E' xe := paired_mono (fun _ _ => MkV.mono (Same.grow g8)) i7
        refine ⟨fun b H' => Same H8 H' ∧ (b = true → pl = true → ∀ m ∈ E', m.1 ≠ ro), ?_, ?_⟩
        · refine ⟨_, rfl, _, rfl, iteB (fun hn => ⟨Same.refl _, fun _ h => by rw [h] at hn; cases hn⟩) (fun _ => ?_)⟩
          refine ⟨_, rfl, pe, rfl, ⟨xe, SqL.of (g8 _ _ i4)⟩, ?_⟩
          refine comp_list (xs := xe) (fun j ys τ H' => H8 = H' ∧ (∃ x, τ = [x, some (.int ro)]) ∧ j ≤ xe.length ∧ ys.length ≤ j ∧ (ys = [] → ∀ m ∈ E'.take j, m.1 ≠ ro)) ⟨rfl, ⟨_, rfl⟩, Nat.zero_le _, Nat.zero_le _, fun _ m hm => by simp at hm⟩ (fun j ys τ H' z => z.1 ▸ SqL.of (g8 _ _ i4)) ?_ ?_
          · rintro j x ys τ _ hx ⟨rfl, ⟨y, rfl⟩, hj, hyl, hyn⟩
            obtain ⟨m, hm, b', rfl, hb'⟩ := paired_get i7' hx
            have hjl : j < xe.length := (List.getElem?_eq_some_iff.mp hx).1
            have hx31 : xe.length ≤ 94 := by have := i7.length; have : E'.length ≤ 3 * i + 1 := i8.le; omega
            refine ⟨_, rfl, _, _, _, _, rfl, rfl, hb', rfl, _, rfl, rfl, _, rfl, ?_⟩
            refine iteDd (fun c => ?_) (fun c => ?_)
            · exact ⟨_, rfl, szl' (by omega), rfl, ⟨_, rfl⟩, hjl, by rw [List.length_append, List.length_singleton]; omega, fun z => absurd z (by simp)⟩
            · refine ⟨rfl, ⟨_, rfl⟩, hjl, by omega, fun z m' h' => ?_⟩
              rw [take_get hm] at h'
              rcases List.mem_append.mp h' with h' | h'
              · exact hyn z m' h'
              · rw [List.mem_singleton.mp h']; exact fun e => c (by rw [e])
          · rintro ys τ _ ⟨rfl, _, _, hyl, hyn⟩ p hp
            refine ⟨p, ys, rfl, .inl (SqL.of upd_same), rfl, _, rfl, same_new hp _, fun z _ => ?_⟩
            have hy0 : ys = [] := by
              have := of_decide_eq_true z
              injection this with this
              exact List.eq_nil_of_length_eq_zero (by omega)
            have := hyn hy0
            rw [← i7.length, List.take_length] at this
            exact this
        · rintro b H9 ⟨g9, hb9⟩
          have gg := g8.trans g9
          refine iteB (fun hbt2 => ?_) (fun _ => ⟨rfl, stay _ gg⟩)
          have hlx : xe.length < sizeLine := by have := i7.length; have : E'.length ≤ 3 * i + 1 := i8.le; exact szl' (by omega)
          refine ⟨_, rfl, .inl ⟨rfl, _, SqL.of (gg _ _ i4)⟩, _, rfl, _, rfl, (by show 2 ≤ sizeLine; decide), fun p hp => ?_⟩
          have gp := gg.trans (same_new hp (.tup [V.int ro, V.str wd]))
          refine ⟨pe, xe, .ref p, rfl, rfl, gp _ _ i4, hlx, rfl, ?_⟩
          exact HI.addEnd AP (i1.trans gp) (gp _ _ i2) (gp _ _ i3) (gp _ _ i4) (paired_mono (fun _ _ => MkV.mono (Same.grow gp)) i5) (paired_mono (fun _ _ => StV.mono (Same.grow gp)) i6) (paired_mono (fun _ _ => MkV.mono (Same.grow gp)) i7)
            (i8.end_ ro0 (ro1 hr2) hwd hnE (hb9 hbt2)) ⟨p, rfl, SqT.of upd_same⟩
    clear i1 i2 i3 i4 i5 i6 i7 i8 B S E' xb xs xe
    rintro _ H8 ⟨rfl, hI8⟩
    obtain ⟨B, S, E', xb, xs, xe, i1, i2, i3, i4, i5, i6, i7, i8⟩ := hI8
    -- a begin
    have stay : ∀ H', Same H8 H' → HI K H pb ps pe pl g r (3 * (i + 1)) H' := fun H' g' => HI.mono ⟨B, S, E', xb, xs, xe, i1, i2, i3, i4, i5, i6, i7, i8⟩ g' (by omega)
    refine ⟨fun b H' => Same H8 H' ∧ (b = true → 0 < r ∧ (ro, wd) ∉ B ∧ (pl = true → B.length = 0)), ?_, ?_⟩
    · refine ⟨_, rfl, _, _, rfl, rfl, _, rfl, iteDd (fun c1 => ?_) (fun _ => ⟨Same.refl _, fun z => nomatch z⟩)⟩
      refine ⟨_, rfl, rfl, _, rfl, iteDd (fun _ => ?_) (fun _ => ⟨Same.refl _, fun z => nomatch z⟩)⟩
      refine ⟨_, rfl, _, rfl, (by show 2 ≤ sizeLine; decide), fun p hp => ?_⟩
      have gp := same_new hp (.tup [V.int ro, V.str wd])
      refine ⟨_, rfl, dMk (ro, wd), pb, xb, B.map dMk, MkV.rep ⟨p, rfl, SqT.of upd_same⟩, rfl, SqL.of (gp _ _ i2), notIn_mk (m := (ro, wd)) (paired_mono (fun _ _ => MkV.mono (Same.grow gp)) i5), Nat.le_trans (deeps_map dMk 1 deep_dMk B) (by decide), _, rfl, iteB (fun z => ?_) (fun _ => ⟨gp, fun z => nomatch z⟩)⟩
      have z' : (!((B.map dMk).any fun e => eqD e (dMk (ro, wd)))) = true := z
      rw [any_mem dMk eqD_dMk] at z'
      have hnB : (ro, wd) ∉ B := by simpa using z'
      refine ⟨_, rfl, pb, xb, rfl, .inl (SqL.of (gp _ _ i2)), rfl, _, rfl, iteDd (fun c => ?_) (fun c => ?_)⟩
      · refine ⟨gp, fun _ => ⟨c1, hnB, fun _ => ?_⟩⟩
        injection c with c
        rw [i5.length]; omega
      · refine ⟨_, rfl, _, rfl, gp, fun hn => ⟨c1, hnB, fun h => ?_⟩⟩
        rw [h] at hn; cases hn
    · rintro b H9 ⟨g9, hb⟩
      refine iteB (fun hbt => ?_) (fun _ => ⟨stay _ g9, _, _, _, _, _, _, _, rfl⟩)
      obtain ⟨hr2, hnB, hB0⟩ := hb hbt
      have hlx : xb.length < sizeLine := by have := i5.length; have : B.length ≤ 3 * i + 2 := i8.lb; exact szl' (by omega)
      refine ⟨_, rfl, .inl ⟨rfl, _, SqL.of (g9 _ _ i2)⟩, _, rfl, _, rfl, (by show 2 ≤ sizeLine; decide), fun p hp => ?_⟩
      have gp := g9.trans (same_new hp (.tup [V.int ro, V.str wd]))
      refine ⟨pb, xb, .ref p, rfl, rfl, gp _ _ i2, hlx, ?_, _, _, _, _, _, _, _, rfl⟩
      exact HI.addBegin AP (i1.trans gp) (gp _ _ i2) (gp _ _ i3) (gp _ _ i4) (paired_mono (fun _ _ => MkV.mono (Same.grow gp)) i5) (paired_mono (fun _ _ => StV.mono (Same.grow gp)) i6) (paired_mono (fun _ _ => MkV.mono (Same.grow gp)) i7)
        (i8.begin ro0 (ro1 hr2) hwd hnB hB0) ⟨p, rfl, SqT.of upd_same⟩
  rintro σ H4 ⟨hI, x9, x10, x11, x12, x13, x14, x15, rfl⟩
  have hI : HI K H pb ps pe pl g r 93 H4 := hI.mono (Same.refl _) (by omega)
  obtain ⟨B, S, E', xb, xs, xe, i1, i2, i3, i4, i5, i6, i7, i8⟩ := hI
  refine ⟨fun σ' H' => [some (.ref a), some (.int at_), some (.bl pl), some (.int fi), some (.str g), some (.int r), some (.ref pb), some (.ref ps), some (.ref pe), x9, x10, x11, x12, x13, x14, x15] = σ' ∧ HI K H pb ps pe pl g r 94 H', ?_, ?_⟩
  · have stay : ∀ H', Same H4 H' → HI K H pb ps pe pl g r 94 H' := fun H' g' => HI.mono ⟨B, S, E', xb, xs, xe, i1, i2, i3, i4, i5, i6, i7, i8⟩ g' (by omega)
    refine ⟨fun b H' => H4 = H' ∧ (b = true → 0 < r ∧ B = []), ?_, ?_⟩
    · refine ⟨_, rfl, _, _, rfl, rfl, _, rfl, iteDd (fun c1 => ?_) (fun _ => ⟨rfl, fun z => nomatch z⟩)⟩
      refine ⟨_, rfl, pb, xb, rfl, .inl (SqL.of i2), rfl, _, rfl, iteDd (fun c => ?_) (fun _ => ⟨rfl, fun z => nomatch z⟩)⟩
      refine ⟨_, rfl, _, _, rfl, rfl, ⟨by decide, by decide⟩, _, _, rfl, rfl, pz, _, _, rfl, rfl, _, rfl, rfl, fun _ => ⟨c1, ?_⟩⟩
      injection c with c
      exact List.eq_nil_of_length_eq_zero (by rw [i5.length]; omega)
    · rintro b _ ⟨rfl, hb⟩
      refine iteB (fun hbt => ?_) (fun _ => ⟨rfl, stay _ (Same.refl _)⟩)
      obtain ⟨hr2, rfl⟩ := hb hbt
      have m0 := Int.emod_nonneg (fi / 360) (show r ≠ 0 by omega)
      have m1 := Int.emod_lt_of_pos (fi / 360) hr2
      have hlx : xb.length < sizeLine := by rw [← i5.length]; exact szl' (by decide)
      refine ⟨_, rfl, .inl ⟨rfl, _, SqL.of i2⟩, _, rfl, _, _, rfl, rfl, ⟨by decide, by decide⟩, _, rfl, _, _, rfl, rfl, hr2, _, rfl, _, _, rfl, rfl, ⟨by decide, by decide⟩, _, rfl, fun wd H5 hwd g5 => ⟨(by show 2 ≤ sizeLine; decide), fun p hp => ?_⟩⟩
      dsimp only at hp ⊢
      have gp := g5.trans (same_new hp (.tup [V.int (fi / 360 % r), V.str wd]))
      refine ⟨pb, xb, .ref p, rfl, rfl, gp _ _ i2, hlx, rfl, ?_⟩
      exact HI.addBegin AP (i1.trans gp) (gp _ _ i2) (gp _ _ i3) (gp _ _ i4) (paired_mono (fun _ _ => MkV.mono (Same.grow gp)) i5) (paired_mono (fun _ _ => StV.mono (Same.grow gp)) i6) (paired_mono (fun _ _ => MkV.mono (Same.grow gp)) i7)
        (i8.begin m0 m1 hwd (by simp) (fun _ => rfl)) ⟨p, rfl, SqT.of upd_same⟩
  clear i1 i2 i3 i4 i5 i6 i7 i8 B S E' xb xs xe
  rintro _ H5 ⟨rfl, B, S, E', xb, xs, xe, i1, i2, i3, i4, i5, i6, i7, i8⟩
  refine ⟨fun σ' H' => [some (.ref a), some (.int at_), some (.bl pl), some (.int fi), some (.str g), some (.int r), some (.ref pb), some (.ref ps), some (.ref pe), x9, x10, x11, x12, x13, x14, x15] = σ' ∧ HI K H pb ps pe pl g r 95 H', ?_, ?_⟩
  · have stay : ∀ H', Same H5 H' → HI K H pb ps pe pl g r 95 H' := fun H' g' => HI.mono ⟨B, S, E', xb, xs, xe, i1, i2, i3, i4, i5, i6, i7, i8⟩ g' (by omega)
    refine ⟨fun b H' => H5 = H' ∧ (b = true → 0 < r ∧ E' = []), ?_, ?_⟩
    · refine ⟨_, rfl, _, _, rfl, rfl, _, rfl, iteDd (fun c1 => ?_) (fun _ => ⟨rfl, fun z => nomatch z⟩)⟩
      refine ⟨_, rfl, pe, xe, rfl, .inl (SqL.of i4), rfl, _, rfl, iteDd (fun c => ?_) (fun _ => ⟨rfl, fun z => nomatch z⟩)⟩
      refine ⟨_, rfl, _, _, rfl, rfl, ⟨by decide, by decide⟩, _, _, rfl, rfl, pz, _, _, rfl, rfl, _, rfl, rfl, fun _ => ⟨c1, ?_⟩⟩
      injection c with c
      exact List.eq_nil_of_length_eq_zero (by rw [i7.length]; omega)
    · rintro b _ ⟨rfl, hb⟩
      refine iteB (fun hbt => ?_) (fun _ => ⟨rfl, stay _ (Same.refl _)⟩)
      obtain ⟨hr2, rfl⟩ := hb hbt
      have m0 := Int.emod_nonneg (fi / 361) (show r ≠ 0 by omega)
      have m1 := Int.emod_lt_of_pos (fi / 361) hr2
      have hlx : xe.length < sizeLine := by rw [← i7.length]; exact szl' (by decide)
      refine ⟨_, rfl, .inl ⟨rfl, _, SqL.of i4⟩, _, rfl, _, _, rfl, rfl, ⟨by decide, by decide⟩, _, rfl, _, _, rfl, rfl, hr2, _, rfl, _, _, rfl, rfl, ⟨by decide, by decide⟩, _, rfl, fun wd H6 hwd g6 => ⟨(by show 2 ≤ sizeLine; decide), fun p hp => ?_⟩⟩
      dsimp only at hp ⊢
      have gp := g6.trans (same_new hp (.tup [V.int (fi / 361 % r), V.str wd]))
      refine ⟨pe, xe, .ref p, rfl, rfl, gp _ _ i4, hlx, rfl, ?_⟩
      exact HI.addEnd AP (i1.trans gp) (gp _ _ i2) (gp _ _ i3) (gp _ _ i4) (paired_mono (fun _ _ => MkV.mono (Same.grow gp)) i5) (paired_mono (fun _ _ => StV.mono (Same.grow gp)) i6) (paired_mono (fun _ _ => MkV.mono (Same.grow gp)) i7)
        (i8.end_ m0 m1 hwd (by simp) (fun _ m hm => by simp at hm)) ⟨p, rfl, SqT.of upd_same⟩
  clear i1 i2 i3 i4 i5 i6 i7 i8 B S E' xb xs xe
  rintro _ H6 ⟨rfl, B, S, E', xb, xs, xe, i1, i2, i3, i4, i5, i6, i7, i8⟩
  refine ⟨_, rfl, _, rfl, _, rfl, _, rfl, _, rfl, (by show 5 ≤ sizeLine; decide), fun v hv => ?_⟩
  have gv := same_new hv (.tup [V.str g, V.int r, V.ref pb, V.ref ps, V.ref pe])
  exact q _ _ ⟨g, r, B, S, E'⟩ pb ps pe ⟨i1.trans gv, ⟨v, xb, xs, xe, rfl, SqT.of upd_same, SqL.of (gv _ _ i2), SqL.of (gv _ _ i3), SqL.of (gv _ _ i4), paired_mono (fun _ _ => MkV.mono (Same.grow gv)) i5, paired_mono (fun _ _ => StV.mono (Same.grow gv)) i6, paired_mono (fun _ _ => MkV.mono (Same.grow gv)) i7⟩,
    i8, hr0, hr1, hg1, hg2, hg3, hg4⟩

theorem sc_law_run : FnScope ["_law_scribe_here", "_law_text_here", "_law_signs", "_law_rooms", "_law_begins", "_law_steps", "_law_ends", "_law_room", "_law_word_here", "_law_sign", "_law_near", "_law_last"] ["_law_scribe_here", "_law_text_here"] (defScope s_law_run) := ⟨rfl, rfl, rfl, by decide +kernel, rfl, by decide +kernel, by decide +kernel⟩
theorem ok_law_run (B : Bi mg) {c_ScribeError c_NoWay c_NoRoom c_NotPlain c_OtherSigns c_TooMany c_TwoWays c_NeverPlain c_NoText : Addr} (XB : Xb K mg c_ScribeError c_NoWay c_NoRoom c_NotPlain c_OtherSigns c_TooMany c_TwoWays c_NeverPlain c_NoText)  {f : Addr} {fd : FuncData} (F : Fun K "_law_run" "_law_run" s_law_run f fd) : FnOk P w K mg base CX0 1 f fd ["_law_scribe_here", "_law_text_here"] (spRun K) := by
  refine F.ok sc_law_run (fun vs H Q E h => ?_) (fun cdv A outer s H vs Q E hr h => ?_)
  · obtain ⟨v, s, pb, ps, pe, x, rfl, _⟩ := h; rfl
  obtain ⟨v, s, pb, ps, pe, x, rfl, hV, hL, hSh, hx, q⟩ := h
  refine ⟨_, (pss_cons (ps_asg (pv 0) (kPG (K := K) (fun k => gTup k 5 _) (pg_tup (n := 5) (by rfl) (pgs_cons (pg_name (i := 2) sc_law_run.nd rfl (Or.inl rfl)) (pgs_cons (pg_name (i := 3) sc_law_run.nd rfl (Or.inl rfl)) (pgs_cons (pg_name (i := 4) sc_law_run.nd rfl (Or.inl rfl)) (pgs_cons (pg_name (i := 5) sc_law_run.nd rfl (Or.inl rfl)) (pgs_cons (pg_name (i := 6) sc_law_run.nd rfl (Or.inl rfl)) pgs_nil))))))))
      (pss_cons (ps_if (pt_cmpR op_eq (pe_callB (kLen (K := K)) (by rfl) B.len bt_len (pa_cons (pv 4) pa_nil)) pe_int (nomark _)) (pss_one (ps_ret pe_non)) pss_nil)
      (pss_cons (ps_asg (pe_ix (kIx (K := K) rIxL ix_list) (pv 4) pe_int (by intro _ _; rfl)) (kPG (K := K) (fun k => gTup k 2 _) (pg_tup (n := 2) (by rfl) (pgs_cons (pg_name (i := 7) sc_law_run.nd rfl (Or.inr rfl)) (pgs_cons (pg_name (i := 8) sc_law_run.nd rfl (Or.inl rfl)) pgs_nil)))))
      (pss_cons (ps_for PassesOwn.never (by rfl) (pi_str (pv 1)) (pg_name (i := 9) sc_law_run.nd rfl (Or.inr rfl)) (pss_cons (ps_compset (i := 10) sc_law_run.nd rfl (Or.inl rfl) (by rfl) (by rfl) (blk_mk (N' := ["_law_step", "_law_room", "_law_sign"]) (js := [none, some 7, some 9]) rfl (by decide +kernel) rfl (by decide +kernel) rfl rfl) (kPI (K := K) (fun k => iList k _) (pi_list (pv 5))) (fun _ _ _ _ _ => (pg_name (i := 0) (show List.Nodup (["_law_step", "_law_room", "_law_sign"] : List Str) by decide +kernel) rfl (Or.inl rfl))) (fun _ _ _ _ _ => (pf_one (PW.pt (pw_and (pt_cmpR op_eq (pe_ix (kIx (K := K) rIxT ix_tup) (pv 0) pe_int (by intro _ _; rfl)) (pv 1) (nomark _)) (pw_and1 (pt_cmpR op_eq (pe_ix (kIx (K := K) rIxT ix_tup) (pv 0) pe_int (by intro _ _; rfl)) (pv 2) (nomark _))))))) (fun _ _ _ _ _ => (pv 0)))
      (pss_cons (ps_if (pt_cmpR op_eq (pe_callB (kLen (K := K)) (by rfl) B.len bt_len (pa_cons (pv 10) pa_nil)) pe_int (nomark _)) (pss_one (ps_ret pe_non)) pss_nil)
      (pss_cons (ps_set (i := 8) sc_law_run.nd rfl (Or.inl rfl) (pe_op op_add_str (pv 8) (pe_ix (kIx (K := K) rIxT ix_tup) (pe_ix (kIx (K := K) rIxL ix_list) (pv 10) pe_int (by intro _ _; rfl)) pe_int (by intro _ _; rfl))))
      (pss_one (ps_set (i := 7) sc_law_run.nd rfl (Or.inr rfl) (pe_ix (kIx (K := K) rIxT ix_tup) (pe_ix (kIx (K := K) rIxL ix_list) (pv 10) pe_int (by intro _ _; rfl)) pe_int (by intro _ _; rfl))))))))
      (pss_cons (ps_compset (i := 11) sc_law_run.nd rfl (Or.inl rfl) (by rfl) (by rfl) (blk_mk (N' := ["_law_end", "_law_room"]) (js := [none, some 7]) rfl (by decide +kernel) rfl (by decide +kernel) rfl rfl) (kPI (K := K) (fun k => iList k _) (pi_list (pv 6))) (fun _ _ _ _ _ => (pg_name (i := 0) (show List.Nodup (["_law_end", "_law_room"] : List Str) by decide +kernel) rfl (Or.inl rfl))) (fun _ _ _ _ _ => (pf_one (pt_cmpR op_eq (pe_ix (kIx (K := K) rIxT ix_tup) (pv 0) pe_int (by intro _ _; rfl)) (pv 1) (nomark _)))) (fun _ _ _ _ _ => (pe_ix (kIx (K := K) rIxT ix_tup) (pv 0) pe_int (by intro _ _; rfl))))
      (pss_cons (ps_if (pt_cmpR op_eq (pe_callB (kLen (K := K)) (by rfl) B.len bt_len (pa_cons (pv 11) pa_nil)) pe_int (nomark _)) (pss_one (ps_ret pe_non)) pss_nil)
      (pss_one (ps_ret (pe_op op_add_str (pv 8) (pe_ix (kIx (K := K) rIxL ix_list) (pv 11) pe_int (by intro _ _; rfl))))))))))), ?_⟩
  obtain ⟨lb, ls, le⟩ := hL
  obtain ⟨a, xb, xs, xe, rfl, h1, h2, h3, h4, h5, h6, h7⟩ := hV
  have lxs : xs.length ≤ 999 := by rw [← h6.length]; exact ls
  have lxe : xe.length ≤ 999 := by rw [← h7.length]; exact le
  refine ⟨_, rfl, _, _, rfl, h1, rfl, _, _, rfl, _, _, rfl, _, _, rfl, _, _, rfl, _, _, rfl, rfl, ?_⟩
  refine ⟨_, rfl, pb, xb, rfl, .inl h2, rfl, _, rfl, iteDd (fun c => ?_) (fun c => ?_)⟩
  · have e0 : s.begins = [] := by
      injection c with c
      have := h5.length
      exact List.eq_nil_of_length_eq_zero (by omega)
    have q' := q H (Same.refl H)
    unfold runM at q'
    rw [e0] at q'
    exact q'
  have h0 : 0 < xb.length := by
    rcases Nat.eq_zero_or_pos xb.length with z | z
    · exact absurd (by rw [z]; rfl) c
    · exact z
  obtain ⟨m, rest, v0, xb', hb, rfl, hm0⟩ := Paired.head h5 h0
  obtain ⟨bm, rfl, hbm⟩ := hm0
  have hml : m.2.length ≤ 100 := hSh.1 m (by rw [hb]; exact List.mem_cons_self ..)
  refine ⟨_, rfl, pb, _, _, .ref bm, rfl, rfl, h2, atI_nat (j := 0) rfl, bm, _, rfl, hbm, rfl, _, _, rfl, _, _, rfl, rfl, ?_⟩
  refine ⟨_, rfl, _, rfl, ?_⟩
  have hxl : (cl x).length = x.length := cl_length x
  refine for_str (fun i σ H' => i ≤ x.length ∧ Same H H' ∧ ∃ r u x9 x10, goM s m ((cl x).take i) = some (r, u) ∧ u.length ≤ 100 * (i + 1) ∧ σ = [some (.ref a), some (.str x), some (.str s.signs), some (.int s.rooms), some (.ref pb), some (.ref ps), some (.ref pe), some (.int r), some (.str u), x9, x10, none])
    ⟨Nat.zero_le _, Same.refl H, m.1, m.2, none, none, rfl, by omega, rfl⟩ ?_ ?_
  · rintro i c σ H5 hc ⟨hi, g5, r, u, x9, x10, hgo, lu, rfl⟩
    have hil : i < x.length := by rw [← hxl]; exact (List.getElem?_eq_some_iff.mp hc).1
    have fail : nextM s (r, u) c = none → runM s x = none := fun z => by
      have : goM s m ((cl x).take (i + 1)) = none := by rw [go_take hc, hgo]; exact z
      unfold runM
      rw [hb]
      show (goM s m (cl x)).bind (lastM s) = none
      rw [go_cut this]; rfl
    have h6' : Paired (StV K H5) s.steps xs := paired_mono (fun _ _ => StV.mono (Same.grow g5)) h6
    refine ⟨_, rfl, ps, rfl, ⟨xs, g5.seq h3⟩, ?_⟩
    refine comp_list (xs := xs) (fun j ys τ H' => H5 = H' ∧ (∃ x, τ = [x, some (.int r), some (.str ⟨#[c]⟩)]) ∧ j ≤ xs.length ∧ Paired (StV K H5) ((s.steps.take j).filter fun t => decide (stKey t = [Sum.inl r, Sum.inr (⟨#[c]⟩ : Str)])) ys) ⟨rfl, ⟨_, rfl⟩, Nat.zero_le _, .nil⟩ (fun j ys τ H' z => z.1 ▸ g5.seq h3) ?_ ?_
    · rintro j y ys τ _ hy ⟨rfl, ⟨y0, rfl⟩, hj, hpy⟩
      obtain ⟨t, ht, b, rfl, hbt⟩ := paired_get h6' hy
      have hjl : j < xs.length := (List.getElem?_eq_some_iff.mp hy).1
      have hyl : ys.length ≤ 999 := by
        rw [← hpy.length]
        have := List.length_filter_le (fun t => decide (stKey t = [Sum.inl r, Sum.inr (⟨#[c]⟩ : Str)])) (s.steps.take j)
        rw [List.length_take] at this; omega
      have no : ¬ (t.1 = r ∧ t.2.1 = ⟨#[c]⟩) → Paired (StV K H5) ((s.steps.take (j + 1)).filter fun t => decide (stKey t = [Sum.inl r, Sum.inr (⟨#[c]⟩ : Str)])) ys := fun z => by
        rw [take_get ht, filter_snoc, if_neg (by simpa [key_iff] using z), List.append_nil]; exact hpy
      refine ⟨_, rfl, _, _, _, _, rfl, rfl, hbt, rfl, _, rfl, rfl, _, rfl, iteDd (fun c1 => ?_) (fun c1 => iteF ⟨rfl, ⟨_, rfl⟩, hjl, no fun z => c1 (by rw [z.1])⟩)⟩
      refine ⟨_, rfl, _, _, _, _, rfl, rfl, hbt, rfl, _, rfl, rfl, _, rfl, iteDd (fun c2 => ?_) (fun c2 => ⟨rfl, ⟨_, rfl⟩, hjl, no fun z => c2 (by rw [z.2])⟩)⟩
      injection c1 with c1
      injection c2 with c2
      refine ⟨_, rfl, szl' (by omega), rfl, ⟨_, rfl⟩, hjl, ?_⟩
      rw [take_get ht, filter_snoc, if_pos (by simpa [key_iff] using ⟨c1, c2⟩)]
      exact paired_append hpy (.cons ⟨b, rfl, hbt⟩ .nil)
    rintro ys τ _ ⟨rfl, _, _, hpy⟩ pn hpn
    have gn := same_new hpn (.lst ys)
    have en : upd H5 pn (.lst ys) pn = some (.lst ys) := upd_same
    have g6 := g5.trans gn
    generalize upd H5 pn (.lst ys) = H6 at gn en g6 ⊢
    rw [← h6.length, List.take_length] at hpy
    refine ⟨_, rfl, pn, ys, rfl, .inl (SqL.of en), rfl, _, rfl, iteDd (fun c3 => ?_) (fun c3 => ?_)⟩
    · have e0 : ys = [] := by
        injection c3 with c3
        exact List.eq_nil_of_length_eq_zero (by omega)
      subst e0
      have q' := q _ g6
      rw [fail (by
        unfold nextM
        have : (s.steps.filter fun t => decide (stKey t = [Sum.inl r, Sum.inr (⟨#[c]⟩ : Str)])) = [] := List.eq_nil_of_length_eq_zero hpy.length
        rw [this])] at q'
      exact q'
    have hn0 : 0 < ys.length := by
      rcases Nat.eq_zero_or_pos ys.length with z | z
      · exact absurd (by rw [z]; rfl) c3
      · exact z
    obtain ⟨t, l', y, ys', hft, rfl, hy⟩ := Paired.head hpy hn0
    obtain ⟨bt, rfl, hbt⟩ := hy
    have hbt6 := (Same.grow gn).seqT hbt
    have tw := (hSh.2.1 t (mem_filter_of hft)).2
    have hnx : nextM s (r, u) c = some (t.2.2.2, u ++ t.2.2.1) := by unfold nextM; rw [hft]
    refine ⟨_, rfl, _, rfl, pn, _, _, .ref bt, rfl, rfl, SqL.of en, atI_nat (j := 0) rfl, bt, _, _, _, rfl, rfl, hbt6, rfl, _, _, rfl, rfl, szl (by omega), ?_⟩
    refine ⟨_, rfl, pn, _, _, .ref bt, rfl, rfl, SqL.of en, atI_nat (j := 0) rfl, bt, _, _, _, rfl, rfl, hbt6, rfl, ?_⟩
    exact ⟨hil, g6, _, _, _, _, by rw [go_take hc, hgo]; exact hnx, by rw [len_app]; omega, rfl⟩
  rintro σ H5 ⟨_, g5, r, u, x9, x10, hgo, lu, rfl⟩
  have hgo' : goM s m (cl x) = some (r, u) := by
    have e : (cl x).take x.cps.toList.length = cl x := List.take_length ..
    rw [e] at hgo; exact hgo
  have lzx : x.cps.toList.length = x.length := hxl
  have hrun : runM s x = lastM s (r, u) := by
    unfold runM
    rw [hb]
    show (goM s m (cl x)).bind (lastM s) = _
    rw [hgo']; rfl
  have h7' : Paired (MkV K H5) s.ends xe := paired_mono (fun _ _ => MkV.mono (Same.grow g5)) h7
  refine ⟨_, rfl, pe, rfl, ⟨xe, g5.seq h4⟩, ?_⟩
  refine comp_list (xs := xe) (fun j ys τ H' => H5 = H' ∧ (∃ x, τ = [x, some (.int r)]) ∧ j ≤ xe.length ∧ ys.length ≤ j ∧ ys = ((s.ends.take j).filter fun t => decide (mkKey t = Sum.inl r)).map fun t => V.str t.2) ⟨rfl, ⟨_, rfl⟩, Nat.zero_le _, Nat.zero_le _, rfl⟩ (fun j ys τ H' z => z.1 ▸ g5.seq h4) ?_ ?_
  · rintro j y ys τ _ hy ⟨rfl, ⟨y0, rfl⟩, hj, hyl, hpy⟩
    obtain ⟨t, ht, b, rfl, hbt⟩ := paired_get h7' hy
    have hjl : j < xe.length := (List.getElem?_eq_some_iff.mp hy).1
    refine ⟨_, rfl, _, _, _, _, rfl, rfl, hbt, rfl, _, rfl, rfl, _, rfl, iteDd (fun c1 => ?_) (fun c1 => ?_)⟩
    · injection c1 with c1
      refine ⟨_, rfl, _, _, _, _, rfl, rfl, hbt, rfl, szl' (by omega), rfl, ⟨_, rfl⟩, hjl, by rw [List.length_append, List.length_singleton]; omega, ?_⟩
      rw [take_get ht, filter_snoc, if_pos (by simpa [mkey_iff] using c1), List.map_append, hpy]; rfl
    · refine ⟨rfl, ⟨_, rfl⟩, hjl, by omega, ?_⟩
      rw [take_get ht, filter_snoc, if_neg (by simpa [mkey_iff] using fun z => c1 (by rw [z])), List.append_nil]; exact hpy
  rintro ys τ _ ⟨rfl, _, _, hyl, hpy⟩ pn hpn
  rw [← h7.length, List.take_length] at hpy
  have gn := same_new hpn (.lst ys)
  have en : upd H5 pn (.lst ys) pn = some (.lst ys) := upd_same
  have g6 := g5.trans gn
  generalize upd H5 pn (.lst ys) = H6 at gn en g6 ⊢
  refine ⟨_, rfl, pn, ys, rfl, .inl (SqL.of en), rfl, _, rfl, iteDd (fun c3 => ?_) (fun c3 => ?_)⟩
  · have e0 : ys = [] := by
      injection c3 with c3
      exact List.eq_nil_of_length_eq_zero (by omega)
    rw [e0] at hpy
    have q' := q _ g6
    have e : lastM s (r, u) = none := by
      unfold lastM
      rw [List.map_eq_nil_iff.mp hpy.symm]
    rw [hrun, e] at q'
    exact q'
  cases hf : (s.ends.filter fun t => decide (mkKey t = Sum.inl r)) with
  | nil => rw [hf] at hpy; exact absurd (by rw [hpy]; rfl) c3
  | cons t l' =>
  rw [hf] at hpy
  subst hpy
  have tl : t.2.length ≤ 100 := hSh.2.2 t (mem_filter_of hf)
  have hla : lastM s (r, u) = some (u ++ t.2) := by unfold lastM; rw [hf]
  have q' := q _ g6
  rw [hrun, hla] at q'
  exact ⟨_, rfl, _, rfl, pn, _, _, .str t.2, rfl, rfl, SqL.of en, atI_nat (j := 0) rfl, _, _, rfl, rfl, szl (by omega), q'⟩

theorem sc_law_text : FnScope ["_law_cell", "_law_signs", "_law_text_here", "_law_number", "_law_k"] ["_law_cell", "_law_signs"] (defScope s_law_text) := ⟨rfl, rfl, rfl, by decide +kernel, rfl, by decide +kernel, by decide +kernel⟩
theorem ok_law_text (B : Bi mg) {c_ScribeError c_NoWay c_NoRoom c_NotPlain c_OtherSigns c_TooMany c_TwoWays c_NeverPlain c_NoText : Addr} (XB : Xb K mg c_ScribeError c_NoWay c_NoRoom c_NotPlain c_OtherSigns c_TooMany c_TwoWays c_NeverPlain c_NoText)  {f : Addr} {fd : FuncData} (F : Fun K "_law_text" "_law_text" s_law_text f fd) : FnOk P w K mg base CX0 1 f fd ["_law_cell", "_law_signs"] (spText) := by
  refine F.ok sc_law_text (fun vs H Q E h => ?_) (fun cdv A outer s H vs Q E hr h => ?_)
  · obtain ⟨c, g, rfl, _⟩ := h; rfl
  obtain ⟨c, g, rfl, hg1, hg2, q⟩ := h
  refine ⟨_, (pss_cons (ps_set (i := 2) sc_law_text.nd rfl (Or.inl rfl) pe_str)
      (pss_cons (ps_set (i := 3) sc_law_text.nd rfl (Or.inl rfl) (pe_op op_fdiv (pv 0) pe_int))
      (pss_cons (ps_for PassesOwn.never (by rfl) (pi_range1 (by rfl) B.range (pa_cons (pe_op op_mod (pv 0) pe_int) pa_nil)) (pg_name (i := 4) sc_law_text.nd rfl (Or.inl rfl)) (pss_cons (ps_set (i := 2) sc_law_text.nd rfl (Or.inl rfl) (pe_op op_add_str (pv 2) (pe_ix ix_str (pv 1) (pe_op op_mod (pv 3) (pe_callB call_len_str (by rfl) B.len bt_len (pa_cons (pv 1) pa_nil))) (by intro _ _; rfl))))
      (pss_one (ps_set (i := 3) sc_law_text.nd rfl (Or.inl rfl) (pe_op op_fdiv (pv 3) (pe_callB call_len_str (by rfl) B.len bt_len (pa_cons (pv 1) pa_nil)))))))
      (pss_one (ps_ret (pv 2)))))), ?_⟩
  have hgl : (0 : Int) < g.length ∧ (g.length : Int) < 1073741824 := by omega
  refine ⟨_, rfl, _, _, rfl, rfl, ⟨by decide, by decide⟩, ?_⟩
  refine ⟨_, rfl, _, _, rfl, rfl, pz, _, rfl, by omega, by omega, ?_⟩
  have h13 : (c % 13).toNat ≤ 12 := by omega
  refine for_range (fun i σ H' => H = H' ∧ ∃ (y : Str) (n : Int) (x4 : Option V), y.length = i ∧ σ = [some (.int c), some (.str g), some (.str y), some (.int n), x4]) ⟨rfl, "", _, none, rfl, rfl⟩ ?_ ?_
  · rintro i σ _ hi ⟨rfl, y, n, x4, hy, rfl⟩
    have hi12 : i < 12 := Nat.lt_of_lt_of_le hi h13
    obtain ⟨k, hk, hm⟩ := at_mem (xs := cl g) (i := n % (g.length : Int)) (Int.emod_nonneg _ (by omega)) (by rw [cl_length]; exact Int.emod_lt_of_pos _ hgl.1)
    refine ⟨_, rfl, _, rfl, _, rfl, _, rfl, g, rfl, szl (by omega), _, _, rfl, rfl, hgl.1, g, _, k, rfl, rfl, szl (by omega), hk, _, _, rfl, rfl, szl (by rw [hy, one_len]; omega), ?_⟩
    refine ⟨_, rfl, _, rfl, g, rfl, szl (by omega), _, _, rfl, rfl, hgl, ?_⟩
    exact ⟨rfl, _, _, _, by rw [len_app, hy]; rfl, rfl⟩
  · rintro σ _ ⟨rfl, y, n, x4, hy, rfl⟩
    exact ⟨_, rfl, q y (by omega)⟩

theorem sc_law_copied : FnScope ["_law_scribe_here"] ["_law_scribe_here"] (defScope s_law_copied) := ⟨rfl, rfl, rfl, by decide +kernel, rfl, by decide +kernel, by decide +kernel⟩
theorem ok_law_copied (B : Bi mg) {c_ScribeError c_NoWay c_NoRoom c_NotPlain c_OtherSigns c_TooMany c_TwoWays c_NeverPlain c_NoText : Addr} (XB : Xb K mg c_ScribeError c_NoWay c_NoRoom c_NotPlain c_OtherSigns c_TooMany c_TwoWays c_NeverPlain c_NoText)  {f : Addr} {fd : FuncData} (F : Fun K "_law_copied" "_law_copied" s_law_copied f fd) : FnOk P w K mg base CX0 1 f fd ["_law_scribe_here"] (spCopied K) := by
  refine F.ok sc_law_copied (fun vs H Q E h => ?_) (fun cdv A outer s H vs Q E hr h => ?_)
  · obtain ⟨v, s, pb, ps, pe, rfl, _⟩ := h; rfl
  obtain ⟨v, s, pb, ps, pe, rfl, hV, q⟩ := h
  refine ⟨_, (pss_one (ps_ret (pe_tup (pa_cons (pe_ix (kIx (K := K) rIxT ix_tup) (pv 0) pe_int (by intro _ _; rfl)) (pa_cons (pe_ix (kIx (K := K) rIxT ix_tup) (pv 0) pe_int (by intro _ _; rfl)) (pa_cons (pe_callTy (kCall (K := K) rLo call_list_of) (by rfl) B.list bt_list (pa_cons (pe_ix (kIx (K := K) rIxT ix_tup) (pv 0) pe_int (by intro _ _; rfl)) pa_nil)) (pa_cons (pe_callTy (kCall (K := K) rLo call_list_of) (by rfl) B.list bt_list (pa_cons (pe_ix (kIx (K := K) rIxT ix_tup) (pv 0) pe_int (by intro _ _; rfl)) pa_nil)) (pa_cons (pe_callTy (kCall (K := K) rLo call_list_of) (by rfl) B.list bt_list (pa_cons (pe_ix (kIx (K := K) rIxT ix_tup) (pv 0) pe_int (by intro _ _; rfl)) pa_nil)) pa_nil)))))))), ?_⟩
  obtain ⟨a, xb, xs, xe, rfl, h1, h2, h3, h4, h5, h6, h7⟩ := hV
  refine ⟨_, rfl, _, _, _, _, rfl, rfl, h1, rfl, _, rfl, _, _, _, _, rfl, rfl, h1, rfl, _, rfl, _, _, _, _, rfl, rfl, h1, rfl, pb, xb, rfl, .inl h2, fun qb hqb => ?_⟩
  have g1 := same_new hqb (.lst xb)
  refine ⟨_, rfl, _, _, _, _, rfl, rfl, Same.seqT g1 h1, rfl, ps, xs, rfl, .inl (g1.seq h3), fun qs hqs => ?_⟩
  have g2 := g1.trans (same_new hqs (.lst xs))
  refine ⟨_, rfl, _, _, _, _, rfl, rfl, Same.seqT g2 h1, rfl, pe, xe, rfl, .inl (g2.seq h4), fun qe hqe => ⟨(by show 5 ≤ sizeLine; decide), fun v hv => ?_⟩⟩
  have g3 := g2.trans (same_new hqe (.lst xe))
  have gv := same_new hv (.tup [V.str s.signs, V.int s.rooms, V.ref qb, V.ref qs, V.ref qe])
  have hqs' : H qs = none := g1.free hqs
  have hqe' : upd H qb (.lst xb) qe = none := (same_new hqs (.lst xs)).free hqe
  have AP : Apart H qb qs qe := ⟨hqb, hqs', g1.free hqe', ne_of_none upd_same hqs, ne_of_none upd_same hqe', ne_of_none upd_same hqe⟩
  have eb : upd (upd (upd H qb (.lst xb)) qs (.lst xs)) qe (.lst xe) qb = some (.lst xb) := by rw [upd_ne AP.be, upd_ne AP.bs]; exact upd_same
  have es : upd (upd (upd H qb (.lst xb)) qs (.lst xs)) qe (.lst xe) qs = some (.lst xs) := by rw [upd_ne AP.se]; exact upd_same
  have ee : upd (upd (upd H qb (.lst xb)) qs (.lst xs)) qe (.lst xe) qe = some (.lst xe) := upd_same
  have G := Same.grow (g3.trans gv)
  exact q _ _ qb qs qe (g3.trans gv) ⟨v, xb, xs, xe, rfl, SqT.of upd_same, gv _ _ eb, gv _ _ es, gv _ _ ee, paired_mono (fun _ _ => MkV.mono G) h5, paired_mono (fun _ _ => StV.mono G) h6, paired_mono (fun _ _ => MkV.mono G) h7⟩ AP

theorem sc_law_kinds : FnScope ["_law_kept", "_law_kinds_here"] ["_law_kept"] (defScope s_law_kinds) := ⟨rfl, rfl, rfl, by decide +kernel, rfl, by decide +kernel, by decide +kernel⟩
theorem ok_law_kinds (B : Bi mg) {c_ScribeError c_NoWay c_NoRoom c_NotPlain c_OtherSigns c_TooMany c_TwoWays c_NeverPlain c_NoText : Addr} (XB : Xb K mg c_ScribeError c_NoWay c_NoRoom c_NotPlain c_OtherSigns c_TooMany c_TwoWays c_NeverPlain c_NoText)  {f : Addr} {fd : FuncData} (F : Fun K "_law_kinds" "_law_kinds" s_law_kinds f fd) : FnOk P w K mg base CX0 1 f fd ["_law_kept"] (spKinds K c_NotPlain [false, false, true, false, false, false, false, false, true]) := by
  refine F.ok sc_law_kinds (fun vs H Q E h => ?_) (fun cdv A outer s H vs Q E hr h => ?_)
  · obtain ⟨v, rfl, _⟩ := h; rfl
  obtain ⟨v, rfl, h⟩ := h
  refine ⟨_, (pss_cons (ps_if (pt_cmpR op_isN (pv 0) pe_non (nomark _)) (pss_one (ps_ret (pe_lst pa_nil))) pss_nil)
      (pss_cons (ps_set (i := 1) sc_law_kinds.nd rfl (Or.inl rfl) (pe_lst (pa_cons (pe_callB (kCall (K := K) rIsX call_isinstX) (by rfl) B.isinstance bt_isinstance (pa_cons (pv 0) (pa_cons (pe_globC (by rfl) XB.nm_NoWay) pa_nil))) (pa_cons (pe_callB (kCall (K := K) rIsX call_isinstX) (by rfl) B.isinstance bt_isinstance (pa_cons (pv 0) (pa_cons (pe_globC (by rfl) XB.nm_NoRoom) pa_nil))) (pa_cons (pe_callB (kCall (K := K) rIsX call_isinstX) (by rfl) B.isinstance bt_isinstance (pa_cons (pv 0) (pa_cons (pe_globC (by rfl) XB.nm_NotPlain) pa_nil))) pa_nil)))))
      (pss_cons (ps_set (i := 1) sc_law_kinds.nd rfl (Or.inl rfl) (pe_op op_cat (pv 1) (pe_lst (pa_cons (pe_callB (kCall (K := K) rIsX call_isinstX) (by rfl) B.isinstance bt_isinstance (pa_cons (pv 0) (pa_cons (pe_globC (by rfl) XB.nm_OtherSigns) pa_nil))) (pa_cons (pe_callB (kCall (K := K) rIsX call_isinstX) (by rfl) B.isinstance bt_isinstance (pa_cons (pv 0) (pa_cons (pe_globC (by rfl) XB.nm_TooMany) pa_nil))) (pa_cons (pe_callB (kCall (K := K) rIsX call_isinstX) (by rfl) B.isinstance bt_isinstance (pa_cons (pv 0) (pa_cons (pe_globC (by rfl) XB.nm_TwoWays) pa_nil))) pa_nil))))))
      (pss_cons (ps_set (i := 1) sc_law_kinds.nd rfl (Or.inl rfl) (pe_op op_cat (pv 1) (pe_lst (pa_cons (pe_callB (kCall (K := K) rIsX call_isinstX) (by rfl) B.isinstance bt_isinstance (pa_cons (pv 0) (pa_cons (pe_globC (by rfl) XB.nm_NeverPlain) pa_nil))) (pa_cons (pe_callB (kCall (K := K) rIsX call_isinstX) (by rfl) B.isinstance bt_isinstance (pa_cons (pv 0) (pa_cons (pe_globC (by rfl) XB.nm_NoText) pa_nil))) pa_nil)))))
      (pss_one (ps_ret (pe_op op_cat (pv 1) (pe_lst (pa_cons (pe_callB (kCall (K := K) rIsX call_isinstX) (by rfl) B.isinstance bt_isinstance (pa_cons (pv 0) (pa_cons (pe_ty (by rfl) B.ValueError bt_ValueError) pa_nil))) pa_nil))))))))), ?_⟩
  rcases h with ⟨rfl, q⟩ | ⟨x, rfl, hx, q⟩
  · refine ⟨_, rfl, rfl, _, rfl, iteDT rfl ?_⟩
    exact ⟨szl (Nat.le_of_ble_eq_true rfl), fun p hp => q p _ (same_new hp _) upd_same⟩
  refine ⟨_, rfl, rfl, _, rfl, iteD (fun z => nomatch z) ?_⟩
  refine ⟨_, rfl, x, c_NotPlain, _, _, _, rfl, hx, XB.xc_NotPlain, rfl, XB.is_NotPlain_NoWay, _, rfl, x, c_NotPlain, _, _, _, rfl, hx, XB.xc_NotPlain, rfl, XB.is_NotPlain_NoRoom, _, rfl, x, c_NotPlain, _, _, _, rfl, hx, XB.xc_NotPlain, rfl, XB.is_NotPlain_NotPlain, szl (Nat.le_of_ble_eq_true rfl), fun p1 hp1 => ?_⟩
  have g1 := same_new hp1 (.lst [V.bl false, V.bl false, V.bl true])
  have e1 : upd H p1 (.lst [V.bl false, V.bl false, V.bl true]) p1 = some (.lst [V.bl false, V.bl false, V.bl true]) := upd_same
  have hx1 := g1 _ _ hx
  generalize upd H p1 (.lst [V.bl false, V.bl false, V.bl true]) = H1 at g1 e1 hx1 ⊢
  refine ⟨_, rfl, _, rfl, x, c_NotPlain, _, _, _, rfl, hx1, XB.xc_NotPlain, rfl, XB.is_NotPlain_OtherSigns, _, rfl, x, c_NotPlain, _, _, _, rfl, hx1, XB.xc_NotPlain, rfl, XB.is_NotPlain_TooMany, _, rfl, x, c_NotPlain, _, _, _, rfl, hx1, XB.xc_NotPlain, rfl, XB.is_NotPlain_TwoWays, szl (Nat.le_of_ble_eq_true rfl), fun p2 hp2 => ?_⟩
  have g2 := same_new hp2 (.lst [V.bl false, V.bl false, V.bl false])
  refine ⟨p1, p2, _, _, rfl, rfl, g2 _ _ e1, upd_same, szl (Nat.le_of_ble_eq_true rfl), fun p3 hp3 => ?_⟩
  have g3 := (g1.trans g2).trans (same_new hp3 (.lst [V.bl false, V.bl false, V.bl true, V.bl false, V.bl false, V.bl false]))
  have e3 : upd (upd H1 p2 (.lst [V.bl false, V.bl false, V.bl false])) p3 (.lst [V.bl false, V.bl false, V.bl true, V.bl false, V.bl false, V.bl false]) p3 = some (.lst [V.bl false, V.bl false, V.bl true, V.bl false, V.bl false, V.bl false]) := upd_same
  have hx3 := g3 _ _ hx
  show _
  generalize hH3 : upd (upd H1 p2 (.lst [V.bl false, V.bl false, V.bl false])) p3 (.lst [V.bl false, V.bl false, V.bl true, V.bl false, V.bl false, V.bl false]) = H3 at g3 e3 hx3
  have hH3' : upd (upd H1 p2 (.lst [V.bl false, V.bl false, V.bl false])) p3 (.lst ([V.bl false, V.bl false, V.bl true] ++ [V.bl false, V.bl false, V.bl false])) = H3 := hH3
  rw [hH3']
  refine ⟨_, rfl, _, rfl, x, c_NotPlain, _, _, _, rfl, hx3, XB.xc_NotPlain, rfl, XB.is_NotPlain_NeverPlain, _, rfl, x, c_NotPlain, _, _, _, rfl, hx3, XB.xc_NotPlain, rfl, XB.is_NotPlain_NoText, szl (Nat.le_of_ble_eq_true rfl), fun p4 hp4 => ?_⟩
  have g4 := same_new hp4 (.lst [V.bl false, V.bl false])
  refine ⟨p3, p4, _, _, rfl, rfl, g4 _ _ e3, upd_same, szl (Nat.le_of_ble_eq_true rfl), fun p5 hp5 => ?_⟩
  have g5 := (g3.trans g4).trans (same_new hp5 (.lst [V.bl false, V.bl false, V.bl true, V.bl false, V.bl false, V.bl false, V.bl false, V.bl false]))
  have e5 : upd (upd H3 p4 (.lst [V.bl false, V.bl false])) p5 (.lst [V.bl false, V.bl false, V.bl true, V.bl false, V.bl false, V.bl false, V.bl false, V.bl false]) p5 = some (.lst [V.bl false, V.bl false, V.bl true, V.bl false, V.bl false, V.bl false, V.bl false, V.bl false]) := upd_same
  have hx5 := g5 _ _ hx
  generalize hH5 : upd (upd H3 p4 (.lst [V.bl false, V.bl false])) p5 (.lst [V.bl false, V.bl false, V.bl true, V.bl false, V.bl false, V.bl false, V.bl false, V.bl false]) = H5 at g5 e5 hx5
  have hH5' : upd (upd H3 p4 (.lst [V.bl false, V.bl false])) p5 (.lst ([V.bl false, V.bl false, V.bl true, V.bl false, V.bl false, V.bl false] ++ [V.bl false, V.bl false])) = H5 := hH5
  rw [hH5']
  refine ⟨_, rfl, _, rfl, x, c_NotPlain, _, _, _, rfl, hx5, XB.xc_NotPlain, rfl, XB.iv_NotPlain_ValueError, szl (Nat.le_of_ble_eq_true rfl), fun p6 hp6 => ?_⟩
  have g6 := same_new hp6 (.lst [V.bl true])
  refine ⟨p5, p6, _, _, rfl, rfl, g6 _ _ e5, upd_same, szl (Nat.le_of_ble_eq_true rfl), fun p7 hp7 => ?_⟩
  exact q p7 _ ((g5.trans g6).trans (same_new hp7 _)) upd_same

theorem sc_law_plain : FnScope ["_law_scribe_here", "_law_outs", "_law_lasts"] ["_law_scribe_here"] (defScope s_law_plain) := ⟨rfl, rfl, rfl, by decide +kernel, rfl, by decide +kernel, by decide +kernel⟩
theorem ok_law_plain (B : Bi mg) {c_ScribeError c_NoWay c_NoRoom c_NotPlain c_OtherSigns c_TooMany c_TwoWays c_NeverPlain c_NoText : Addr} (XB : Xb K mg c_ScribeError c_NoWay c_NoRoom c_NotPlain c_OtherSigns c_TooMany c_TwoWays c_NeverPlain c_NoText)  {f : Addr} {fd : FuncData} (F : Fun K "_law_plain" "_law_plain" s_law_plain f fd) : FnOk P w K mg base CX0 1 f fd ["_law_scribe_here"] (spPlain K) := by
  refine F.ok sc_law_plain (fun vs H Q E h => ?_) (fun cdv A outer s H vs Q E hr h => ?_)
  · obtain ⟨v, s, pb, ps, pe, rfl, _⟩ := h; rfl
  obtain ⟨v, s, pb, ps, pe, rfl, hV, hs, he, q⟩ := h
  refine ⟨_, (pss_cons (ps_compset (i := 1) sc_law_plain.nd rfl (Or.inl rfl) (by rfl) (by rfl) (blk_mk (N' := ["_law_step"]) (js := [none]) rfl (by decide +kernel) rfl (by decide +kernel) rfl rfl) (kPI (K := K) (fun k => iList k _) (pi_list (pe_ix (kIx (K := K) rIxT ix_tup) (pv 0) pe_int (by intro _ _; rfl)))) (fun _ _ _ _ _ => (pg_name (i := 0) (show List.Nodup (["_law_step"] : List Str) by decide +kernel) rfl (Or.inl rfl))) (fun _ _ _ _ _ => pf_nil) (fun _ _ _ _ _ => (pe_slice (kSl (K := K) rSlT sl_tup) (pv 0) po_none (po_some pe_int))))
      (pss_cons (ps_compset (i := 2) sc_law_plain.nd rfl (Or.inl rfl) (by rfl) (by rfl) (blk_mk (N' := ["_law_end"]) (js := [none]) rfl (by decide +kernel) rfl (by decide +kernel) rfl rfl) (kPI (K := K) (fun k => iList k _) (pi_list (pe_ix (kIx (K := K) rIxT ix_tup) (pv 0) pe_int (by intro _ _; rfl)))) (fun _ _ _ _ _ => (pg_name (i := 0) (show List.Nodup (["_law_end"] : List Str) by decide +kernel) rfl (Or.inl rfl))) (fun _ _ _ _ _ => pf_nil) (fun _ _ _ _ _ => (pe_ix (kIx (K := K) rIxT ix_tup) (pv 0) pe_int (by intro _ _; rfl))))
      (pss_one (ps_ret (pe_and (pe_cmpR op_lt (pe_callB (kLen (K := K)) (by rfl) B.len bt_len (pa_cons (pe_ix (kIx (K := K) rIxT ix_tup) (pv 0) pe_int (by intro _ _; rfl)) pa_nil)) pe_int (nomark _)) (pe_and (pe_cmpR op_eq (pe_callB call_len_set (by rfl) B.len bt_len (pa_cons (pe_callTy (call_set hr (by rfl)) (by rfl) B.set bt_set (pa_cons (pv 1) pa_nil)) pa_nil)) (pe_callB (kLen (K := K)) (by rfl) B.len bt_len (pa_cons (pv 1) pa_nil)) (nomark _)) (pe_one (pe_cmpR op_eq (pe_callB call_len_set (by rfl) B.len bt_len (pa_cons (pe_callTy (call_set hr (by rfl)) (by rfl) B.set bt_set (pa_cons (pv 2) pa_nil)) pa_nil)) (pe_callB (kLen (K := K)) (by rfl) B.len bt_len (pa_cons (pv 2) pa_nil)) (nomark _))))))))), ?_⟩
  obtain ⟨a, xb, xs, xe, rfl, h1, h2, h3, h4, h5, h6, h7⟩ := hV
  have l5 : s.begins.length = xb.length := h5.length
  have lo : (outs s).length = xs.length := by unfold outs; rw [List.length_map]; exact h6.length
  have le : (lasts s).length = xe.length := by unfold lasts; rw [List.length_map]; exact h7.length
  have hsl : s.steps.length = xs.length := h6.length
  have hel : s.ends.length = xe.length := h7.length
  refine ⟨_, rfl, _, _, _, _, rfl, rfl, h1, rfl, ps, rfl, ⟨xs, h3⟩, ?_⟩
  refine comp_list (xs := xs) (fun i ys τ H' => Same H H' ∧ (∃ x, τ = [x]) ∧ i ≤ 999 ∧ ys.length = i ∧ Paired (KeyV K H') ((outs s).take i) ys) ⟨Same.refl H, ⟨_, rfl⟩, Nat.zero_le _, rfl, .nil⟩ (fun i ys τ H' z => z.1.seq h3) ?_ ?_
  · rintro i x ys τ H' hx ⟨g, ⟨y, rfl⟩, hi, hy, hP⟩
    obtain ⟨t, ht, b, rfl, hb⟩ := paired_get h6 hx
    have hb' := (Same.grow g).seqT hb
    have hil : i < xs.length := (List.getElem?_eq_some_iff.mp hx).1
    refine ⟨_, rfl, _, rfl, b, _, rfl, hb', (show ¬ (0 = 0 ∧ 2 = 4) by decide), fun p hp => ⟨szl' (by omega), g.trans (same_new hp _), ⟨_, rfl⟩, by omega, by rw [List.length_append]; show ys.length + 1 = i + 1; omega, ?_⟩⟩
    have e : (outs s).take (i + 1) = (outs s).take i ++ [[Sum.inl t.1, Sum.inr t.2.1]] := by
      have : (outs s)[i]? = some [Sum.inl t.1, Sum.inr t.2.1] := by unfold outs; rw [List.getElem?_map, ht]; rfl
      rw [List.take_add_one, this]; rfl
    rw [e]
    exact paired_append (paired_mono (fun _ _ => KeyV.mono (grow_new hp _)) hP) (.cons ⟨p, rfl, SqT.of upd_same⟩ .nil)
  rintro ys τ H1 ⟨g1, _, _, hy1, hP1⟩ po hpo
  rw [← lo, List.take_length] at hP1
  have gp := same_new hpo (.lst ys)
  have hPo := paired_mono (fun _ _ => KeyV.mono (Same.grow gp)) hP1
  have eo : upd H1 po (.lst ys) po = some (.lst ys) := upd_same
  have g2 := g1.trans gp
  generalize upd H1 po (.lst ys) = H2 at gp hPo eo g2 ⊢
  have h7' : Paired (MkV K H2) s.ends xe := paired_mono (fun _ _ => MkV.mono (Same.grow g2)) h7
  refine ⟨_, rfl, _, _, _, _, rfl, rfl, Same.seqT g2 h1, rfl, pe, rfl, ⟨xe, g2.seq h4⟩, ?_⟩
  refine comp_list (xs := xe) (fun i zs τ H' => H2 = H' ∧ (∃ x, τ = [x]) ∧ i ≤ 999 ∧ zs.length = i ∧ zs = ((lasts s).take i).map kV) ⟨rfl, ⟨_, rfl⟩, Nat.zero_le _, rfl, rfl⟩ (fun i zs τ H' z => z.1 ▸ g2.seq h4) ?_ ?_
  · rintro i x zs τ H' hx ⟨rfl, ⟨y, rfl⟩, hi, hz, hP⟩
    obtain ⟨t, ht, b, rfl, hb⟩ := paired_get h7' hx
    have hil : i < xe.length := (List.getElem?_eq_some_iff.mp hx).1
    refine ⟨_, rfl, _, _, _, _, rfl, rfl, hb, rfl, szl' (by omega), rfl, ⟨_, rfl⟩, by omega, by rw [List.length_append]; show zs.length + 1 = i + 1; omega, ?_⟩
    have e : (lasts s).take (i + 1) = (lasts s).take i ++ [Sum.inl t.1] := by
      have : (lasts s)[i]? = some (Sum.inl t.1) := by unfold lasts; rw [List.getElem?_map, ht]; rfl
      rw [List.take_add_one, this]; rfl
    rw [e, List.map_append, hP]
    rfl
  rintro zs τ H3 ⟨rfl, _, _, hz3, hP3⟩ pl hpl
  rw [← le, List.take_length] at hP3
  have g3' := same_new hpl (.lst zs)
  have el : upd H2 pl (.lst zs) pl = some (.lst zs) := upd_same
  have eo3 := g3' _ _ eo
  have hPo3 := paired_mono (fun _ _ => KeyV.mono (Same.grow g3')) hPo
  have g3 := g2.trans g3'
  generalize upd H2 pl (.lst zs) = H4 at g3 el eo3 hPo3 ⊢
  refine ⟨_, rfl, _, _, _, _, rfl, rfl, Same.seqT g3 h1, rfl, pb, xb, rfl, .inl (g3.seq h2), _, _, rfl, rfl, _, rfl, iteDd (fun c1 => ?_) (fun c1 => ?_)⟩
  rotate_left
  · have e : plainB s = false := by
      unfold plainB
      rw [decide_eq_true (show s.begins.length > 1 by omega)]; rfl
    have q' := q H4 g3
    rw [e] at q'
    exact q'
  have hle := ndist_le (outs s).reverse
  rw [List.length_reverse] at hle
  refine ⟨_, rfl, .inl ⟨_, ys, outs s, rfl, SqL.of eo3, hPo3, by omega, fun d hd => ?_⟩⟩
  have gd := same_new hd (SetN d (ndist (outs s).reverse))
  refine ⟨_, _, rfl, upd_same, by omega, _, rfl, po, ys, rfl, .inl (gd.seq (SqL.of eo3)), rfl, ?_⟩
  have e : decide (V.int ((ndist (outs s).reverse : Nat) : Int) = V.int (ys.length : Int)) = decide (outs s).Nodup := by rw [nd_int, ← hP1.length, nodup_dec]
  refine ⟨_, rfl, ?_⟩
  rw [e]
  have g5 := g3.trans gd
  have el5 := gd _ _ el
  generalize upd H4 d (SetN d (ndist (outs s).reverse)) = H5 at g5 el5 ⊢
  refine iteDd (fun c2 => ?_) (fun c2 => ?_)
  rotate_left
  · have e : plainB s = false := by
      unfold plainB
      rw [decide_eq_false c2, Bool.and_false, Bool.false_and]
    have q' := q H5 g5
    rw [e] at q'
    exact q'
  have hle2 := ndist_le (lasts s).reverse
  rw [List.length_reverse] at hle2
  refine ⟨_, rfl, .inr ⟨_, lasts s, rfl, by rw [← hP3]; exact SqL.of el5, by omega, fun d2 hd2 => ?_⟩⟩
  have gd2 := same_new hd2 (SetN d2 (ndist (lasts s).reverse))
  refine ⟨_, _, rfl, upd_same, by omega, _, rfl, pl, zs, rfl, .inl (gd2.seq (SqL.of el5)), rfl, ?_⟩
  have e2 : decide (V.int ((ndist (lasts s).reverse : Nat) : Int) = V.int (zs.length : Int)) = decide (lasts s).Nodup := by rw [nd_int, hz3, ← le, nodup_dec]
  show Q (.bl (decide (V.int ((ndist (lasts s).reverse : Nat) : Int) = V.int (zs.length : Int)))) _
  rw [e2]
  have ep : plainB s = decide (lasts s).Nodup := by
    unfold plainB
    rw [decide_eq_false (show ¬ s.begins.length > 1 by omega), decide_eq_true c2]; rfl
  have q' := q _ (g5.trans gd2)
  rw [ep] at q'
  exact q'

theorem sc_law_asked : FnScope ["_law_scribe_here", "_law_text_here", "_law_found", "_law_kept", "e"] ["_law_scribe_here", "_law_text_here"] (defScope s_law_asked) := ⟨rfl, rfl, rfl, by decide +kernel, rfl, by decide +kernel, by decide +kernel⟩
theorem ok_law_asked (B : Bi mg) {c_ScribeError c_NoWay c_NoRoom c_NotPlain c_OtherSigns c_TooMany c_TwoWays c_NeverPlain c_NoText : Addr} (XB : Xb K mg c_ScribeError c_NoWay c_NoRoom c_NotPlain c_OtherSigns c_TooMany c_TwoWays c_NeverPlain c_NoText) (C_written_for : Cal1 P w K mg base "written_for" ["scribe", "text"] 4 (spWritten K c_NotPlain)) {f : Addr} {fd : FuncData} (F : Fun K "_law_asked" "_law_asked" s_law_asked f fd) : FnOk P w K mg base CX0 5 f fd ["_law_scribe_here", "_law_text_here"] (spAsked K c_NotPlain) := by
  refine F.ok sc_law_asked (fun vs H Q E h => ?_) (fun cdv A outer s H vs Q E hr h => ?_)
  · obtain ⟨v, s, pb, ps, pe, x, rfl, _⟩ := h; rfl
  obtain ⟨v, s, pb, ps, pe, x, rfl, hV, hL, hSh, hx, q, qE⟩ := h
  refine ⟨_, (pss_cons (ps_set (i := 2) sc_law_asked.nd rfl (Or.inl rfl) pe_non)
      (pss_cons (ps_set (i := 3) sc_law_asked.nd rfl (Or.inl rfl) pe_non)
      (pss_cons (ps_try1 (iy := 2) (iz := 3) (ie := 4) rfl C_written_for hr (by decide : 4 ≤ 4) (by rfl) (pa_cons (pv 0) (pa_cons (pv 1) pa_nil)) XB.cl_ScribeError (by rfl) rfl rfl rfl sc_law_asked.nd rfl rfl rfl (Or.inl rfl) (Or.inl rfl) rfl (by decide))
      (pss_one (ps_ret (pe_tup (pa_cons (pv 2) (pa_cons (pv 3) pa_nil)))))))), ?_⟩
  refine ⟨_, rfl, _, rfl, v, s, pb, ps, pe, x, rfl, hV, hL, hSh, hx, fun hp H1 g1 => ?_, fun hp H1 g1 => ⟨c_NotPlain, rfl, XB.sub_NotPlain_ScribeError, fun xc hxc => ?_⟩⟩
  · refine ⟨_, rfl, _, rfl, (by show 2 ≤ sizeLine; decide), fun p hp' => ?_⟩
    exact q hp p _ (g1.trans (same_new hp' _)) upd_same
  · have gx := same_new hxc (Exc xc c_NotPlain)
    refine ⟨_, rfl, _, rfl, (by show 2 ≤ sizeLine; decide), fun p hp' => ?_⟩
    have gp := same_new hp' (.tup [V.non, V.ref xc])
    exact qE hp p xc _ ((g1.trans gx).trans gp) upd_same (gp _ _ upd_same)

theorem sc_law : FnScope ["_law_script", "_law_scribe_here", "_law_handed", "_law_k", "_law_cell", "_law_text_here", "_law_at", "_law_due", "_law_found", "_law_words", "_law_other", "_law_kept"] ["_law_script"] (defScope s_law) := ⟨rfl, rfl, rfl, by decide +kernel, rfl, by decide +kernel, by decide +kernel⟩
theorem ok_law (B : Bi mg) {c_ScribeError c_NoWay c_NoRoom c_NotPlain c_OtherSigns c_TooMany c_TwoWays c_NeverPlain c_NoText : Addr} (XB : Xb K mg c_ScribeError c_NoWay c_NoRoom c_NotPlain c_OtherSigns c_TooMany c_TwoWays c_NeverPlain c_NoText) (C_law_scribe : Cal P w K mg base "_law_scribe" ["_law_script", "_law_at", "_law_plain_here"] 3 (spScribe K)) (C_law_copied : Cal P w K mg base "_law_copied" ["_law_scribe_here"] 1 (spCopied K)) (C_law_asked : Cal P w K mg base "_law_asked" ["_law_scribe_here", "_law_text_here"] 5 (spAsked K c_NotPlain)) (C_law_plain : Cal P w K mg base "_law_plain" ["_law_scribe_here"] 1 (spPlain K)) (C_law_cell_at : Cal P w K mg base "_law_cell_at" ["_law_script", "_law_k"] 1 (spCell K)) (C_law_text : Cal P w K mg base "_law_text" ["_law_cell", "_law_signs"] 1 (spText)) (C_law_run : Cal P w K mg base "_law_run" ["_law_scribe_here", "_law_text_here"] 1 (spRun K)) (C_written_for : Cal1 P w K mg base "written_for" ["scribe", "text"] 4 (spWritten K c_NotPlain)) (C_all_written : Cal1 P w K mg base "all_written" ["scribe", "text"] 3 (spAllW K c_TooMany)) (C_law_kinds : Cal P w K mg base "_law_kinds" ["_law_kept"] 1 (spKinds K c_NotPlain [false, false, true, false, false, false, false, false, true])) {f : Addr} {fd : FuncData} (F : Fun K "law" "law" s_law f fd) : FnOk P w K mg base CX0 6 f fd ["_law_script"] (spLaw K) := by
  refine F.ok sc_law (fun vs H Q E h => ?_) (fun cdv A outer s H vs Q E hr h => ?_)
  · obtain ⟨a, ns, rfl, _⟩ := h; rfl
  obtain ⟨a, ns, rfl, hS, h63, q⟩ := h
  refine ⟨_, (pss_cons (ps_set (i := 1) sc_law.nd rfl (Or.inl rfl) (pe_fn C_law_scribe hr (by decide : 3 ≤ 5) (by rfl) (pa_cons (pv 0) (pa_cons pe_int (pa_cons pe_bl pa_nil)))))
      (pss_cons (ps_set (i := 2) sc_law.nd rfl (Or.inl rfl) (pe_fn C_law_copied hr (by decide : 1 ≤ 5) (by rfl) (pa_cons (pv 1) pa_nil)))
      (pss_cons (ps_for PassesOwn.never (by rfl) (pi_range1 (by rfl) B.range (pa_cons pe_int pa_nil)) (pg_name (i := 3) sc_law.nd rfl (Or.inl rfl)) (pss_cons (ps_set (i := 4) sc_law.nd rfl (Or.inl rfl) (pe_fn C_law_cell_at hr (by decide : 1 ≤ 5) (by rfl) (pa_cons (pv 0) (pa_cons (pe_op op_add pe_int (pv 3)) pa_nil))))
      (pss_cons (ps_set (i := 5) sc_law.nd rfl (Or.inl rfl) (pe_fn C_law_text hr (by decide : 1 ≤ 5) (by rfl) (pa_cons (pe_op op_fdiv (pv 4) pe_int) (pa_cons (pe_ix (kIx (K := K) rIxT ix_tup) (pv 1) pe_int (by intro _ _; rfl)) pa_nil))))
      (pss_mid (ps_if (pt_cmpR op_eq (pe_op op_mod (pe_op op_fdiv (pv 4) pe_int) pe_int) pe_int (nomark _)) (pss_cons (ps_set (i := 6) sc_law.nd rfl (Or.inl rfl) (pe_op op_mod (pe_op op_fdiv (pv 4) pe_int) (pe_op op_add (pe_callB call_len_str (by rfl) B.len bt_len (pa_cons (pv 5) pa_nil)) pe_int)))
      (pss_one (ps_set (i := 5) sc_law.nd rfl (Or.inl rfl) (pe_op op_add_str (pe_op op_add_str (pe_slice sl_str (pv 5) po_none (po_some (pv 6))) pe_str) (pe_slice sl_str (pv 5) (po_some (pv 6)) po_none))))) pss_nil)
      (pss_cons (ps_set (i := 7) sc_law.nd rfl (Or.inl rfl) (pe_fn C_law_run hr (by decide : 1 ≤ 5) (by rfl) (pa_cons (pv 1) (pa_cons (pv 5) pa_nil))))
      (pss_cons (ps_set (i := 8) sc_law.nd rfl (Or.inl rfl) (pe_fn1 C_written_for hr (by decide : 4 ≤ 5) (by rfl) pass_no (pa_cons (pv 2) (pa_cons (pv 5) pa_nil))))
      (pss_cons (ps_if (pt_abs (PW.pt (pw_or (pt_cmpR (kOp (K := K) rNeD (op_neD hr.units)) (pv 8) (pv 7) (nomark _)) (pw_or1 (PW.pt (pw_and (pt_cmpR op_notN (pv 7) pe_non (nomark _)) (pw_and1 (pt_not (pt_val (pe_callB (kCall (K := K) rIs call_isinst) (by rfl) B.isinstance bt_isinstance (pa_cons (pv 8) (pa_cons (pe_ty (by rfl) B.str bt_str) pa_nil)))))))))))) (pss_one (ps_ret pe_bl)) pss_nil)
      (pss_cons (ps_set (i := 9) sc_law.nd rfl (Or.inl rfl) (pe_fn1 C_all_written hr (by decide : 3 ≤ 5) (by rfl) pass_no (pa_cons (pv 2) (pa_cons (pv 5) pa_nil))))
      (pss_cons (ps_if (pt_abs (PW.pt (pw_or (pt_not (pt_val (pe_callB (kCall (K := K) rIs call_isinst) (by rfl) B.isinstance bt_isinstance (pa_cons (pv 9) (pa_cons (pe_ty (by rfl) B.list bt_list) pa_nil))))) (pw_or1 (pt_cmpR (kOp (K := K) rNeD (op_neD hr.units)) (pv 9) (pe_comp rfl (blk_mk (N' := ["_law_word_here"]) (js := [none]) rfl (by decide +kernel) rfl (by decide +kernel) rfl rfl) (kPI (K := K) (fun k => iList k _) (pi_list (pe_lst (pa_cons (pv 7) pa_nil)))) (fun _ _ _ _ _ => (pg_name (i := 0) (show List.Nodup (["_law_word_here"] : List Str) by decide +kernel) rfl (Or.inl rfl))) (fun _ _ _ _ _ => (pf_one (pt_cmpR op_notN (pv 0) pe_non (nomark _)))) (fun _ _ _ _ _ => (pv 0))) (nomark _)))))) (pss_one (ps_ret pe_bl)) pss_nil)
      (pss_one (ps_expr (kPE (K := K) (fun k => tBM k _ _ _ _) (pe_bm PySem.F.plainAttrs_list PySem.F.slot_list_append PySem.F.type_list_append mt_append (pv 9) (pa_cons pe_str pa_nil))))))))))))))
      (pss_cons (ps_set (i := 10) sc_law.nd rfl (Or.inl rfl) (pe_fn C_law_scribe hr (by decide : 3 ≤ 5) (by rfl) (pa_cons (pv 0) (pa_cons pe_int (pa_cons pe_bl pa_nil)))))
      (pss_cons (ps_asg (pe_fn C_law_asked hr (by decide : 5 ≤ 5) (by rfl) (pa_cons (pv 10) (pa_cons (pe_fn C_law_text hr (by decide : 1 ≤ 5) (by rfl) (pa_cons (pe_fn C_law_cell_at hr (by decide : 1 ≤ 5) (by rfl) (pa_cons (pv 0) (pa_cons pe_int pa_nil))) (pa_cons (pe_ix (kIx (K := K) rIxT ix_tup) (pv 10) pe_int (by intro _ _; rfl)) pa_nil))) pa_nil))) (kPG (K := K) (fun k => gTup k 2 _) (pg_tup (n := 2) (by rfl) (pgs_cons (pg_name (i := 8) sc_law.nd rfl (Or.inl rfl)) (pgs_cons (pg_name (i := 11) sc_law.nd rfl (Or.inl rfl)) pgs_nil)))))
      (pss_cons (ps_if (pt_val (pe_fn C_law_plain hr (by decide : 1 ≤ 5) (by rfl) (pa_cons (pv 10) pa_nil))) (pss_one (ps_ret (pe_and (pe_cmpR op_isN (pv 11) pe_non (nomark _)) (pe_one (pe_cmpR (kOp (K := K) rEqD (op_eqD hr.units)) (pv 2) (pv 1) (nomark _)))))) pss_nil)
      (pss_one (ps_ret (pe_and (pe_cmpR (kOp (K := K) rEqD (op_eqD hr.units)) (pe_fn C_law_kinds hr (by decide : 1 ≤ 5) (by rfl) (pa_cons (pv 11) pa_nil)) (pe_op op_cat (pe_op op_cat (pe_lst (pa_cons pe_bl (pa_cons pe_bl (pa_cons pe_bl pa_nil)))) (pe_op op_rep (pe_lst (pa_cons pe_bl pa_nil)) pe_int)) (pe_lst (pa_cons pe_bl pa_nil))) (nomark _)) (pe_one (pe_cmpR (kOp (K := K) rEqD (op_eqD hr.units)) (pv 2) (pv 1) (nomark _)))))))))))), ?_⟩
  refine ⟨_, rfl, a, ns, 0, true, rfl, hS, h63, by decide, by decide, fun v1 H1 s pb ps pe ⟨g1, hV1, ok1, r0, r1, sg1, sg2, sg3, sg4⟩ => ?_⟩
  have hSh := short_of ok1
  have hLn := lens_of ok1
  have hPl := plain_of ok1
  refine ⟨_, rfl, v1, s, pb, ps, pe, rfl, hV1, fun v2 H2 pb2 ps2 pe2 g2 hN2 _ => ?_⟩
  have hV2 := hN2.v
  have hV1' := hV1.mono g2
  have hS2 := (g1.trans g2).seq hS
  obtain ⟨av, xb, xs, xe, e1, t1, _⟩ := id hV1'
  subst e1
  refine ⟨_, rfl, by decide, by decide, ?_⟩
  refine for_range (fun i σ H' => Same H2 H' ∧ ∃ x3 x4 x5 x6 x7 x8 x9 x10 x11, σ = [some (.ref a), some (.ref av), some v2, x3, x4, x5, x6, x7, x8, x9, x10, x11]) ⟨Same.refl _, _, _, _, _, _, _, _, _, _, rfl⟩ ?_ ?_
  · rintro i σ H3 hi ⟨g3, x3, x4, x5, x6, x7, x8, x9, x10, x11, rfl⟩
    refine ⟨_, rfl, _, rfl, _, _, rfl, rfl, a, ns, _, rfl, g3.seq hS2, by omega, ?_⟩
    generalize cellAt ns (33 + (0 + (i : Int))) = ce
    refine ⟨_, rfl, _, _, rfl, rfl, ⟨by decide, by decide⟩, _, rfl, _, _, _, _, rfl, rfl, Same.seqT g3 t1, rfl, _, s.signs, rfl, sg1, sg2, fun y hy => ?_⟩
    refine ⟨fun σ' H' => H3 = H' ∧ ∃ (y : Str) (x6 : Option V), y.length ≤ 30 ∧ [some (.ref a), some (.ref av), some v2, some (.int (0 + (i : Int))), some (.int ce), some (.str y), x6, x7, x8, x9, x10, x11] = σ', ?_, ?_⟩
    · refine ⟨_, rfl, _, _, rfl, rfl, ⟨by decide, by decide⟩, _, _, rfl, rfl, pz, rfl, _, rfl, iteDd (fun _ => ?_) (fun _ => ⟨rfl, y, _, by omega, rfl⟩)⟩
      refine ⟨_, rfl, _, _, rfl, rfl, ⟨by decide, by decide⟩, _, rfl, y, rfl, szl (by omega), _, _, rfl, rfl, _, _, rfl, rfl, (by show (0 : Int) < (y.length : Int) + 1; omega), ?_⟩
      have c1 := Txt.slice_le y none (some (ce / 3 % ((y.length : Int) + 1)))
      have c2 := Txt.slice_le y (some (ce / 3 % ((y.length : Int) + 1))) none
      have ql : ("q" : Str).length = 1 := by decide +kernel
      exact ⟨_, rfl, _, rfl, _, rfl, y, rfl, szl (by omega), _, _, rfl, rfl, szl (by omega), _, rfl, _, rfl, _, rfl, y, rfl, szl (by omega), _, _, rfl, rfl, szl (by rw [len_app]; omega), rfl, _, _, by rw [len_app, len_app]; omega, rfl⟩
    clear hy y
    rintro _ _ ⟨rfl, y, x6', hy, rfl⟩
    obtain ⟨Pm, hPm, hWm⟩ := all_plain ok1 y
    refine ⟨_, rfl, _, rfl, _, s, pb, ps, pe, y, rfl, hV1'.mono g3, hLn, hSh, by omega, fun H4 g4 => ?_⟩
    have g34 := g3.trans g4
    refine ⟨_, rfl, _, rfl, v2, s, pb2, ps2, pe2, y, rfl, hV2.mono g34, hLn, hSh, by omega, fun _ H5 g5 => ?_, fun z => (by rw [hPl] at z; cases z)⟩
    have g35 := g34.trans g5
    refine ⟨fun b H' => H5 = H' ∧ b = false, ?_, ?_⟩
    · refine ⟨_, rfl, _, rfl, dOpt (runM s y), dOpt (runM s y), rep_opt _, rep_opt _, by cases runM s y <;> simp [dOpt, deep], _, rfl, ?_⟩
      rw [eqD_refl]
      refine iteF ?_
      cases runM s y with
      | none => exact ⟨_, rfl, rfl, _, rfl, iteNd (fun c => absurd rfl c) (fun _ => ⟨rfl, rfl⟩)⟩
      | some u =>
        refine ⟨_, rfl, rfl, _, rfl, iteNd (fun _ => ?_) (fun c => nomatch c)⟩
        exact ⟨_, rfl, _, "str", _, _, rfl, TyOf.str _, is_str, _, rfl, rfl, rfl⟩
    rintro _ _ ⟨rfl, rfl⟩
    refine iteF ?_
    refine ⟨_, rfl, _, rfl, v2, s, pb2, ps2, pe2, y, rfl, hV2.mono g35, hLn, hSh, by omega, fun P hP => ?_, fun P hP l ss H6 g6 hl hp _ hw => ?_, fun z => (by rw [hPm] at z; cases z)⟩
    · rw [hPm] at hP; cases hP
      rw [hWm]
      exact Nat.lt_of_le_of_lt (opt_len _) (by decide)
    rw [hPm] at hP; cases hP
    rw [hWm] at hp
    have hss := perm_opt hp
    subst hss
    have hwl := opt_len (runM s y)
    refine ⟨fun b H' => Same H6 H' ∧ b = false, ?_, ?_⟩
    · refine ⟨_, rfl, _, "list", _, _, rfl, TyOf.lst hw, is_list, _, rfl, iteF ?_⟩
      refine ⟨_, rfl, _, rfl, szl (Nat.le_of_ble_eq_true rfl), fun l2 hl2 => ⟨l2, rfl, ⟨_, SqL.of upd_same⟩, ?_⟩⟩
      have g7 := same_new hl2 (.lst [optV (runM s y)])
      have e7 : upd H6 l2 (.lst [optV (runM s y)]) l2 = some (.lst [optV (runM s y)]) := upd_same
      have hw7 := g7 _ _ hw
      generalize upd H6 l2 (.lst [optV (runM s y)]) = H7 at g7 e7 hw7 ⊢
      refine comp_list (xs := [optV (runM s y)]) (fun j ys τ H' => H7 = H' ∧ (∃ x, τ = [x]) ∧ (j = 0 → ys = []) ∧ (j = 1 → ys = (runM s y).toList.map V.str)) ⟨rfl, ⟨_, rfl⟩, fun _ => rfl, fun z => nomatch z⟩ (fun j ys τ H' z => z.1 ▸ SqL.of e7) ?_ ?_
      · rintro j z ys τ _ hz ⟨rfl, ⟨y0, rfl⟩, j0, _⟩
        have hj : j = 0 := by
          have := (List.getElem?_eq_some_iff.mp hz).1
          simpa using this
        subst hj
        cases hz
        cases j0 rfl
        cases runM s y with
        | none => exact ⟨_, rfl, rfl, _, rfl, iteNd (fun c => absurd rfl c) (fun _ => ⟨rfl, ⟨_, rfl⟩, (fun z => nomatch z), fun _ => rfl⟩)⟩
        | some u => exact ⟨_, rfl, rfl, _, rfl, iteNd (fun _ => ⟨_, rfl, szl' (by simp), rfl, ⟨_, rfl⟩, (fun z => nomatch z), fun _ => rfl⟩) (fun c => nomatch c)⟩
      rintro ys τ _ ⟨rfl, _, _, hys⟩ p hp
      cases hys rfl
      have g8 := same_new hp (.lst ((runM s y).toList.map V.str))
      refine ⟨.lst ((runM s y).toList.map D.str), .lst ((runM s y).toList.map D.str), rep_lst (SqL.of (g8 _ _ hw7)) (Reps.map D.str V.str (fun i => rep_str i) _), rep_lst (SqL.of upd_same) (Reps.map D.str V.str (fun i => rep_str i) _), ?_, _, rfl, ?_⟩
      · have := deeps_map D.str 0 (fun _ => by simp [deep]) (runM s y).toList
        simp only [deep]; omega
      rw [eqD_refl]
      exact ⟨g7.trans g8, rfl⟩
    rintro _ H7 ⟨g7, rfl⟩
    refine iteF ?_
    refine ⟨_, rfl, .inl ⟨rfl, _, SqL.of (g7 _ _ hw)⟩, l, _, _, rfl, rfl, g7 _ _ hw, by rw [List.length_map]; exact szl' (by omega), ?_⟩
    exact ⟨same_updN (((g35).trans g6).trans g7) (g35.free hl), _, _, _, _, _, _, _, _, _, rfl⟩
  rintro σ H3 ⟨g3, x3, x4, x5, x6, x7, x8, x9, x10, x11, rfl⟩
  have hS3 := g3.seq hS2
  refine ⟨_, rfl, a, ns, 32, false, rfl, hS3, h63, by decide, by decide, fun v3 H4 s3 pb3 ps3 pe3 ⟨g4, hV3, ok3, _, _, og1, og2, _⟩ => ?_⟩
  have hS4 := g4.seq hS3
  obtain ⟨ov, yb, ys, ye, e3, o1, _⟩ := id hV3
  subst e3
  have hSh3 := short_of ok3
  have hLn3 := lens_of ok3
  have hV1e : ∀ {H' : Hp}, Same H4 H' → Rep K H' (dScr s) (.ref av) := fun g => (hV1'.mono ((g3.trans g4).trans g)).rep
  have hV2e : ∀ {H' : Hp}, Same H4 H' → Rep K H' (dScr s) v2 := fun g => (hV2.mono ((g3.trans g4).trans g)).rep
  refine ⟨_, rfl, _, rfl, a, ns, 5, rfl, hS4, by decide, _, rfl, _, _, _, _, rfl, rfl, o1, rfl, _, s3.signs, rfl, og1, og2, fun y hy => ?_⟩
  refine ⟨_, s3, pb3, ps3, pe3, y, rfl, hV3, hLn3, hSh3, by omega, fun hp p H5 g5 e5 => ?_, fun hp p xc H5 g5 e5 ex => ?_⟩
  · refine ⟨p, _, rfl, SqT.of e5, rfl, _, _, rfl, _, _, rfl, rfl, ?_⟩
    refine ⟨_, rfl, _, s3, pb3, ps3, pe3, rfl, hV3.mono g5, hLn3.2.1, hLn3.2.2, fun H6 g6 => ⟨_, rfl, ?_⟩⟩
    rw [hp]
    refine iteT ?_
    refine ⟨_, rfl, rfl, _, rfl, iteDT rfl ?_⟩
    refine ⟨_, rfl, _, rfl, dScr s, dScr s, hV2e (g5.trans g6), hV1e (g5.trans g6), Nat.le_trans (deep_dScr s) (by decide), ?_⟩
    rw [eqD_refl]
    exact q _
  · refine ⟨p, _, rfl, SqT.of e5, rfl, _, _, rfl, _, _, rfl, rfl, ?_⟩
    refine ⟨_, rfl, _, s3, pb3, ps3, pe3, rfl, hV3.mono g5, hLn3.2.1, hLn3.2.2, fun H6 g6 => ⟨_, rfl, ?_⟩⟩
    rw [hp]
    refine iteF ?_
    refine ⟨_, rfl, _, rfl, .inr ⟨xc, rfl, g6 _ _ ex, fun pk H7 g7 hpk => ?_⟩⟩
    refine ⟨szl (Nat.le_of_ble_eq_true rfl), fun q1 hq1 => ⟨szl (Nat.le_of_ble_eq_true rfl), fun q2 hq2 => ?_⟩⟩
    have k2 := same_new hq2 (.lst [V.bl false])
    refine ⟨q2, 5, _, rfl, rfl, upd_same, by decide, by decide, szl (by decide), fun q3 hq3 => ?_⟩
    have k3 := same_new hq3 (.lst (List.replicate (5 : Int).toNat [V.bl false]).flatten)
    refine ⟨q1, q3, _, _, rfl, rfl, k3 _ _ (k2 _ _ upd_same), upd_same, szl (by decide), fun q4 hq4 => ?_⟩
    have k4 := same_new hq4 (.lst ([V.bl false, V.bl false, V.bl true] ++ (List.replicate (5 : Int).toNat [V.bl false]).flatten))
    refine ⟨szl (Nat.le_of_ble_eq_true rfl), fun q5 hq5 => ?_⟩
    have k5 := same_new hq5 (.lst [V.bl true])
    refine ⟨q4, q5, _, _, rfl, rfl, k5 _ _ upd_same, upd_same, szl (by decide), fun q6 hq6 => ?_⟩
    have k6 := same_new hq6 (.lst ([V.bl false, V.bl false, V.bl true] ++ (List.replicate (5 : Int).toNat [V.bl false]).flatten ++ [V.bl true]))
    have k1 := same_new hq1 (.lst [V.bl false, V.bl false, V.bl true])
    have kk := ((((k1.trans k2).trans k3).trans k4).trans k5).trans k6
    refine ⟨.lst ([false, false, true, false, false, false, false, false, true].map D.bl), .lst ([false, false, true, false, false, false, false, false, true].map D.bl), rep_lst (SqL.of (kk _ _ hpk)) (reps_bl _), rep_lst (SqL.of upd_same) (reps_bl [false, false, true, false, false, false, false, false, true]), by rw [deep]; have := deeps_bl [false, false, true, false, false, false, false, false, true]; omega, _, rfl, ?_⟩
    rw [eqD_refl]
    refine iteT ?_
    refine ⟨_, rfl, _, rfl, dScr s, dScr s, hV2e (((g5.trans g6).trans g7).trans kk), hV1e (((g5.trans g6).trans g7).trans kk), Nat.le_trans (deep_dScr s) (by decide), ?_⟩
    rw [eqD_refl]
    exact q _

end
theorem len_1 {α : Type} : ∀ {us : List α} (_ : us.length = 1), ∃ u0, us = [u0]
  | [u0], _ => ⟨u0, rfl⟩
theorem len_2 {α : Type} : ∀ {us : List α} (_ : us.length = 2), ∃ u0 u1, us = [u0, u1]
  | [u0, u1], _ => ⟨u0, u1, rfl⟩
theorem len_3 {α : Type} : ∀ {us : List α} (_ : us.length = 3), ∃ u0 u1 u2, us = [u0, u1, u2]
  | [u0, u1, u2], _ => ⟨u0, u1, u2, rfl⟩
theorem all_mk {l : PySem.W.OpenLaw} {w : World} {K : PySem.W.Frag} {h : Heap} {mg : Str → Option Value} {fa f0 f1 f2 f3 f4 f5 f6 f7 f8 f9 f10 f11 f12 f13 f14 f15 f16 f17 f18 f19 f20 c_ScribeError c_NoWay c_NoRoom c_NotPlain c_OtherSigns c_TooMany c_TwoWays c_NeverPlain c_NoText : Addr} (X : K.In h) (G : h.Ns mainGlobals mg) (hfa : mg "law" = some (.ref fa))
    {od0 an0 od1 an1 od2 an2 od3 an3 od4 an4 od5 an5 od6 an6 od7 an7 od8 an8 od9 an9 od10 an10 od11 an11 od12 an12 od13 an13 od14 an14 od15 an15 od16 an16 od17 an17 od18 an18 od19 an19 od20 an20 : Option Addr} {sl0 sl1 sl2 sl3 sl4 sl5 sl6 sl7 sl8 sl9 sl10 sl11 sl12 sl13 sl14 sl15 sl16 sl17 sl18 sl19 sl20 : Array (Option Value)} {oc0 kV0 dc0 pm0 cd0 ct0 oc1 kV1 dc1 pm1 cd1 ct1 oc2 kV2 dc2 pm2 cd2 ct2 oc3 kV3 dc3 pm3 cd3 ct3 oc4 kV4 dc4 pm4 cd4 ct4 oc5 kV5 dc5 pm5 cd5 ct5 oc6 kV6 dc6 pm6 cd6 ct6 oc7 kV7 dc7 pm7 cd7 ct7 oc8 kV8 dc8 pm8 cd8 ct8 oc9 kV9 dc9 pm9 cd9 ct9 oc10 kV10 dc10 pm10 cd10 ct10 oc11 kV11 dc11 pm11 cd11 ct11 oc12 kV12 dc12 pm12 cd12 ct12 oc13 kV13 dc13 pm13 cd13 ct13 oc14 kV14 dc14 pm14 cd14 ct14 oc15 kV15 dc15 pm15 cd15 ct15 oc16 kV16 dc16 pm16 cd16 ct16 oc17 kV17 dc17 pm17 cd17 ct17 oc18 kV18 dc18 pm18 cd18 ct18 oc19 kV19 dc19 pm19 cd19 ct19 oc20 kV20 dc20 pm20 cd20 ct20 : Value}
    (a0 : PySem.W.nsIn K mainGlobals "all_unlike" = some (some (.ref f0))) (l0 : K.lookup f0 = some ⟨oc0, od0, .func (PySem.W.fnOf "all_unlike" "all_unlike" (defArgs s_all_unlike) (defBody s_all_unlike) (defScope s_all_unlike) .none kV0 dc0 pm0 an0 cd0 ct0), sl0⟩) (c0 : PySem.W.codeIn K cd0 "all_unlike" = true) (k0 : PySem.W.keepIn K (.ref f0) = true)
    (a1 : PySem.W.nsIn K mainGlobals "is_plain" = some (some (.ref f1))) (l1 : K.lookup f1 = some ⟨oc1, od1, .func (PySem.W.fnOf "is_plain" "is_plain" (defArgs s_is_plain) (defBody s_is_plain) (defScope s_is_plain) .none kV1 dc1 pm1 an1 cd1 ct1), sl1⟩) (c1 : PySem.W.codeIn K cd1 "is_plain" = true) (k1 : PySem.W.keepIn K (.ref f1) = true)
    (a2 : PySem.W.nsIn K mainGlobals "refuse_choices" = some (some (.ref f2))) (l2 : K.lookup f2 = some ⟨oc2, od2, .func (PySem.W.fnOf "refuse_choices" "refuse_choices" (defArgs s_refuse_choices) (defBody s_refuse_choices) (defScope s_refuse_choices) .none kV2 dc2 pm2 an2 cd2 ct2), sl2⟩) (c2 : PySem.W.codeIn K cd2 "refuse_choices" = true) (k2 : PySem.W.keepIn K (.ref f2) = true)
    (a3 : PySem.W.nsIn K mainGlobals "steps_by_start" = some (some (.ref f3))) (l3 : K.lookup f3 = some ⟨oc3, od3, .func (PySem.W.fnOf "steps_by_start" "steps_by_start" (defArgs s_steps_by_start) (defBody s_steps_by_start) (defScope s_steps_by_start) .none kV3 dc3 pm3 an3 cd3 ct3), sl3⟩) (c3 : PySem.W.codeIn K cd3 "steps_by_start" = true) (k3 : PySem.W.keepIn K (.ref f3) = true)
    (a4 : PySem.W.nsIn K mainGlobals "end_words_by_room" = some (some (.ref f4))) (l4 : K.lookup f4 = some ⟨oc4, od4, .func (PySem.W.fnOf "end_words_by_room" "end_words_by_room" (defArgs s_end_words_by_room) (defBody s_end_words_by_room) (defScope s_end_words_by_room) .none kV4 dc4 pm4 an4 cd4 ct4), sl4⟩) (c4 : PySem.W.codeIn K cd4 "end_words_by_room" = true) (k4 : PySem.W.keepIn K (.ref f4) = true)
    (a5 : PySem.W.nsIn K mainGlobals "read_from" = some (some (.ref f5))) (l5 : K.lookup f5 = some ⟨oc5, od5, .func (PySem.W.fnOf "read_from" "read_from" (defArgs s_read_from) (defBody s_read_from) (defScope s_read_from) .none kV5 dc5 pm5 an5 cd5 ct5), sl5⟩) (c5 : PySem.W.codeIn K cd5 "read_from" = true) (k5 : PySem.W.keepIn K (.ref f5) = true)
    (a6 : PySem.W.nsIn K mainGlobals "written_for" = some (some (.ref f6))) (l6 : K.lookup f6 = some ⟨oc6, od6, .func (PySem.W.fnOf "written_for" "written_for" (defArgs s_written_for) (defBody s_written_for) (defScope s_written_for) .none kV6 dc6 pm6 an6 cd6 ct6), sl6⟩) (c6 : PySem.W.codeIn K cd6 "written_for" = true) (k6 : PySem.W.keepIn K (.ref f6) = true)
    (a7 : PySem.W.nsIn K mainGlobals "refuse_many" = some (some (.ref f7))) (l7 : K.lookup f7 = some ⟨oc7, od7, .func (PySem.W.fnOf "refuse_many" "refuse_many" (defArgs s_refuse_many) (defBody s_refuse_many) (defScope s_refuse_many) .none kV7 dc7 pm7 an7 cd7 ct7), sl7⟩) (c7 : PySem.W.codeIn K cd7 "refuse_many" = true) (k7 : PySem.W.keepIn K (.ref f7) = true)
    (a8 : PySem.W.nsIn K mainGlobals "pairs_behind" = some (some (.ref f8))) (l8 : K.lookup f8 = some ⟨oc8, od8, .func (PySem.W.fnOf "pairs_behind" "pairs_behind" (defArgs s_pairs_behind) (defBody s_pairs_behind) (defScope s_pairs_behind) .none kV8 dc8 pm8 an8 cd8 ct8), sl8⟩) (c8 : PySem.W.codeIn K cd8 "pairs_behind" = true) (k8 : PySem.W.keepIn K (.ref f8) = true)
    (a9 : PySem.W.nsIn K mainGlobals "all_written" = some (some (.ref f9))) (l9 : K.lookup f9 = some ⟨oc9, od9, .func (PySem.W.fnOf "all_written" "all_written" (defArgs s_all_written) (defBody s_all_written) (defScope s_all_written) .none kV9 dc9 pm9 an9 cd9 ct9), sl9⟩) (c9 : PySem.W.codeIn K cd9 "all_written" = true) (k9 : PySem.W.keepIn K (.ref f9) = true)
    (a10 : PySem.W.nsIn K mainGlobals "_law_cell_at" = some (some (.ref f10))) (l10 : K.lookup f10 = some ⟨oc10, od10, .func (PySem.W.fnOf "_law_cell_at" "_law_cell_at" (defArgs s_law_cell_at) (defBody s_law_cell_at) (defScope s_law_cell_at) .none kV10 dc10 pm10 an10 cd10 ct10), sl10⟩) (c10 : PySem.W.codeIn K cd10 "_law_cell_at" = true) (k10 : PySem.W.keepIn K (.ref f10) = true)
    (a11 : PySem.W.nsIn K mainGlobals "_law_digits_at" = some (some (.ref f11))) (l11 : K.lookup f11 = some ⟨oc11, od11, .func (PySem.W.fnOf "_law_digits_at" "_law_digits_at" (defArgs s_law_digits_at) (defBody s_law_digits_at) (defScope s_law_digits_at) .none kV11 dc11 pm11 an11 cd11 ct11), sl11⟩) (c11 : PySem.W.codeIn K cd11 "_law_digits_at" = true) (k11 : PySem.W.keepIn K (.ref f11) = true)
    (a12 : PySem.W.nsIn K mainGlobals "_law_word" = some (some (.ref f12))) (l12 : K.lookup f12 = some ⟨oc12, od12, .func (PySem.W.fnOf "_law_word" "_law_word" (defArgs s_law_word) (defBody s_law_word) (defScope s_law_word) .none kV12 dc12 pm12 an12 cd12 ct12), sl12⟩) (c12 : PySem.W.codeIn K cd12 "_law_word" = true) (k12 : PySem.W.keepIn K (.ref f12) = true)
    (a13 : PySem.W.nsIn K mainGlobals "_law_scribe" = some (some (.ref f13))) (l13 : K.lookup f13 = some ⟨oc13, od13, .func (PySem.W.fnOf "_law_scribe" "_law_scribe" (defArgs s_law_scribe) (defBody s_law_scribe) (defScope s_law_scribe) .none kV13 dc13 pm13 an13 cd13 ct13), sl13⟩) (c13 : PySem.W.codeIn K cd13 "_law_scribe" = true) (k13 : PySem.W.keepIn K (.ref f13) = true)
    (a14 : PySem.W.nsIn K mainGlobals "_law_run" = some (some (.ref f14))) (l14 : K.lookup f14 = some ⟨oc14, od14, .func (PySem.W.fnOf "_law_run" "_law_run" (defArgs s_law_run) (defBody s_law_run) (defScope s_law_run) .none kV14 dc14 pm14 an14 cd14 ct14), sl14⟩) (c14 : PySem.W.codeIn K cd14 "_law_run" = true) (k14 : PySem.W.keepIn K (.ref f14) = true)
    (a15 : PySem.W.nsIn K mainGlobals "_law_text" = some (some (.ref f15))) (l15 : K.lookup f15 = some ⟨oc15, od15, .func (PySem.W.fnOf "_law_text" "_law_text" (defArgs s_law_text) (defBody s_law_text) (defScope s_law_text) .none kV15 dc15 pm15 an15 cd15 ct15), sl15⟩) (c15 : PySem.W.codeIn K cd15 "_law_text" = true) (k15 : PySem.W.keepIn K (.ref f15) = true)
    (a16 : PySem.W.nsIn K mainGlobals "_law_copied" = some (some (.ref f16))) (l16 : K.lookup f16 = some ⟨oc16, od16, .func (PySem.W.fnOf "_law_copied" "_law_copied" (defArgs s_law_copied) (defBody s_law_copied) (defScope s_law_copied) .none kV16 dc16 pm16 an16 cd16 ct16), sl16⟩) (c16 : PySem.W.codeIn K cd16 "_law_copied" = true) (k16 : PySem.W.keepIn K (.ref f16) = true)
    (a17 : PySem.W.nsIn K mainGlobals "_law_kinds" = some (some (.ref f17))) (l17 : K.lookup f17 = some ⟨oc17, od17, .func (PySem.W.fnOf "_law_kinds" "_law_kinds" (defArgs s_law_kinds) (defBody s_law_kinds) (defScope s_law_kinds) .none kV17 dc17 pm17 an17 cd17 ct17), sl17⟩) (c17 : PySem.W.codeIn K cd17 "_law_kinds" = true) (k17 : PySem.W.keepIn K (.ref f17) = true)
    (a18 : PySem.W.nsIn K mainGlobals "_law_plain" = some (some (.ref f18))) (l18 : K.lookup f18 = some ⟨oc18, od18, .func (PySem.W.fnOf "_law_plain" "_law_plain" (defArgs s_law_plain) (defBody s_law_plain) (defScope s_law_plain) .none kV18 dc18 pm18 an18 cd18 ct18), sl18⟩) (c18 : PySem.W.codeIn K cd18 "_law_plain" = true) (k18 : PySem.W.keepIn K (.ref f18) = true)
    (a19 : PySem.W.nsIn K mainGlobals "_law_asked" = some (some (.ref f19))) (l19 : K.lookup f19 = some ⟨oc19, od19, .func (PySem.W.fnOf "_law_asked" "_law_asked" (defArgs s_law_asked) (defBody s_law_asked) (defScope s_law_asked) .none kV19 dc19 pm19 an19 cd19 ct19), sl19⟩) (c19 : PySem.W.codeIn K cd19 "_law_asked" = true) (k19 : PySem.W.keepIn K (.ref f19) = true)
    (a20 : PySem.W.nsIn K mainGlobals "law" = some (some (.ref f20))) (l20 : K.lookup f20 = some ⟨oc20, od20, .func (PySem.W.fnOf "law" "law" (defArgs s_law) (defBody s_law) (defScope s_law) .none kV20 dc20 pm20 an20 cd20 ct20), sl20⟩) (c20 : PySem.W.codeIn K cd20 "law" = true) (k20 : PySem.W.keepIn K (.ref f20) = true)
    (z0 : PySem.W.nsIn K mainGlobals "ValueError" = some none)
    (z1 : PySem.W.nsIn K mainGlobals "int" = some none)
    (z2 : PySem.W.nsIn K mainGlobals "isinstance" = some none)
    (z3 : PySem.W.nsIn K mainGlobals "len" = some none)
    (z4 : PySem.W.nsIn K mainGlobals "list" = some none)
    (z5 : PySem.W.nsIn K mainGlobals "max" = some none)
    (z6 : PySem.W.nsIn K mainGlobals "min" = some none)
    (z7 : PySem.W.nsIn K mainGlobals "range" = some none)
    (z8 : PySem.W.nsIn K mainGlobals "set" = some none)
    (z9 : PySem.W.nsIn K mainGlobals "sorted" = some none)
    (z10 : PySem.W.nsIn K mainGlobals "str" = some none)
    {gt0 : Tok} (g0 : PySem.W.nsIn K mainGlobals "BEGINS" = some (some (.int 2 gt0)))
    {gt1 : Tok} (g1 : PySem.W.nsIn K mainGlobals "ENDS" = some (some (.int 4 gt1)))
    {gt2 : Tok} (g2 : PySem.W.nsIn K mainGlobals "MOST_PAIRS" = some (some (.int 1000 gt2)))
    {gt3 : Tok} (g3 : PySem.W.nsIn K mainGlobals "STEPS" = some (some (.int 3 gt3)))
    (x0 : PySem.W.nsIn K mainGlobals "ScribeError" = some (some (.ref c_ScribeError)))
    (x1 : PySem.W.nsIn K mainGlobals "NoWay" = some (some (.ref c_NoWay)))
    (x2 : PySem.W.nsIn K mainGlobals "NoRoom" = some (some (.ref c_NoRoom)))
    (x3 : PySem.W.nsIn K mainGlobals "NotPlain" = some (some (.ref c_NotPlain)))
    (x4 : PySem.W.nsIn K mainGlobals "OtherSigns" = some (some (.ref c_OtherSigns)))
    (x5 : PySem.W.nsIn K mainGlobals "TooMany" = some (some (.ref c_TooMany)))
    (x6 : PySem.W.nsIn K mainGlobals "TwoWays" = some (some (.ref c_TwoWays)))
    (x7 : PySem.W.nsIn K mainGlobals "NeverPlain" = some (some (.ref c_NeverPlain)))
    (x8 : PySem.W.nsIn K mainGlobals "NoText" = some (some (.ref c_NoText)))
    (x9 : PySem.W.excIn K c_NotPlain bmV "ValueError.__new__" = true)
    (x10 : PySem.W.findIn K (.ref c_NotPlain) "__getattribute__" = some (some (.builtin "BaseException.__getattribute__")))
    (x11 : PySem.W.findIn K (.ref c_NotPlain) "__getattr__" = some none)
    (x12 : PySem.W.mroIn K c_NotPlain (.type "BaseException") = some true)
    (x13 : (PySem.W.clsIn K c_NotPlain).isSome = true)
    (x14 : PySem.W.findIn K (.ref c_NotPlain) "__class__" = some (some (.builtin "object.__class__")))
    (x15 : PySem.W.specialIn K (.builtin "object.__class__") "__get__" = some (some (.builtin "getset_descriptor.__get__")))
    (x16 : PySem.W.takesIn K (.builtin "object.__class__") = some true)
    (x17 : PySem.W.mroIn K c_NotPlain (.type "object") = some true)
    (x18 : PySem.W.excIn K c_TooMany bmV "ValueError.__new__" = true)
    (x19 : PySem.W.findIn K (.ref c_TooMany) "__getattribute__" = some (some (.builtin "BaseException.__getattribute__")))
    (x20 : PySem.W.findIn K (.ref c_TooMany) "__getattr__" = some none)
    (x21 : PySem.W.mroIn K c_TooMany (.type "BaseException") = some true)
    (x22 : (PySem.W.clsIn K c_TooMany).isSome = true)
    (x23 : PySem.W.findIn K (.ref c_TooMany) "__class__" = some (some (.builtin "object.__class__")))
    (x24 : PySem.W.specialIn K (.builtin "object.__class__") "__get__" = some (some (.builtin "getset_descriptor.__get__")))
    (x25 : PySem.W.takesIn K (.builtin "object.__class__") = some true)
    (x26 : PySem.W.mroIn K c_TooMany (.type "object") = some true)
    (x27 : PySem.W.typeIn K (.ref c_ScribeError) = some (.type "type"))
    (x28 : (PySem.W.clsIn K c_ScribeError).isSome = true)
    (x29 : PySem.W.mroIn K c_ScribeError (.type "BaseException") = some true)
    (x30 : PySem.W.mroIn K c_NotPlain (.ref c_ScribeError) = some true)
    (x31 : PySem.W.mroIn K c_TooMany (.ref c_ScribeError) = some true)
    (x32 : PySem.W.kitOne K (.ref c_NotPlain) (.ref c_NoText) = some false)
    (x33 : PySem.W.kitOne K (.ref c_NotPlain) (.ref c_NeverPlain) = some false)
    (x34 : PySem.W.kitOne K (.ref c_NotPlain) (.ref c_TwoWays) = some false)
    (x35 : PySem.W.kitOne K (.ref c_NotPlain) (.ref c_TooMany) = some false)
    (x36 : PySem.W.kitOne K (.ref c_NotPlain) (.ref c_OtherSigns) = some false)
    (x37 : PySem.W.kitOne K (.ref c_NotPlain) (.ref c_NotPlain) = some true)
    (x38 : PySem.W.kitOne K (.ref c_NotPlain) (.ref c_NoRoom) = some false)
    (x39 : PySem.W.kitOne K (.ref c_NotPlain) (.ref c_NoWay) = some false)
    (x40 : PySem.W.kitOne K (.ref c_NotPlain) (.type "ValueError") = some true)
    (x41 : PySem.W.kitOne K (.ref c_TooMany) (.ref c_NoText) = some false)
    (x42 : PySem.W.kitOne K (.ref c_TooMany) (.ref c_NeverPlain) = some false)
    (x43 : PySem.W.kitOne K (.ref c_TooMany) (.ref c_TwoWays) = some false)
    (x44 : PySem.W.kitOne K (.ref c_TooMany) (.ref c_TooMany) = some true)
    (x45 : PySem.W.kitOne K (.ref c_TooMany) (.ref c_OtherSigns) = some false)
    (x46 : PySem.W.kitOne K (.ref c_TooMany) (.ref c_NotPlain) = some false)
    (x47 : PySem.W.kitOne K (.ref c_TooMany) (.ref c_NoRoom) = some false)
    (x48 : PySem.W.kitOne K (.ref c_TooMany) (.ref c_NoWay) = some false)
    (x49 : PySem.W.kitOne K (.ref c_TooMany) (.type "ValueError") = some true) :
    ∃ fd : FuncData, (∀ (s : Shared) (v : Value), BindsTo s fd ⟨[v], []⟩ [("_law_script", v)]) ∧ ∀ base : Heap, K.In base → base.Ns mainGlobals mg → FnOk l.prog w K mg base CX0 6 fa fd ["_law_script"] (spLaw K) := by
  have e := hfa.symm.trans (PySem.W.mg_of X G a20)
  cases e
  have B : Bi mg := ⟨PySem.W.mg_none_of X G z0, PySem.W.mg_none_of X G z1, PySem.W.mg_none_of X G z2, PySem.W.mg_none_of X G z3, PySem.W.mg_none_of X G z4, PySem.W.mg_none_of X G z5, PySem.W.mg_none_of X G z6, PySem.W.mg_none_of X G z7, PySem.W.mg_none_of X G z8, PySem.W.mg_none_of X G z9, PySem.W.mg_none_of X G z10, ⟨_, PySem.W.mg_of X G g0⟩, ⟨_, PySem.W.mg_of X G g1⟩, ⟨_, PySem.W.mg_of X G g2⟩, ⟨_, PySem.W.mg_of X G g3⟩⟩
  have nm_ScribeError := PySem.W.mg_of X G x0
  have nm_NoWay := PySem.W.mg_of X G x1
  have nm_NoRoom := PySem.W.mg_of X G x2
  have nm_NotPlain := PySem.W.mg_of X G x3
  have nm_OtherSigns := PySem.W.mg_of X G x4
  have nm_TooMany := PySem.W.mg_of X G x5
  have nm_TwoWays := PySem.W.mg_of X G x6
  have nm_NeverPlain := PySem.W.mg_of X G x7
  have nm_NoText := PySem.W.mg_of X G x8
  have own_NotPlain : OwnX K mg "NotPlain" c_NotPlain := ⟨nm_NotPlain, x9⟩
  have xc_NotPlain : XCls K c_NotPlain := ⟨x10, x11, x12, x13, x14, x15, x16, x17⟩
  have own_TooMany : OwnX K mg "TooMany" c_TooMany := ⟨nm_TooMany, x18⟩
  have xc_TooMany : XCls K c_TooMany := ⟨x19, x20, x21, x22, x23, x24, x25, x26⟩
  have cl_ScribeError : Clause K mg "ScribeError" c_ScribeError := ⟨nm_ScribeError, x27, x28, x29⟩
  have sub_NotPlain_ScribeError := x30
  have sub_TooMany_ScribeError := x31
  have is_NotPlain_NoText := x32
  have is_NotPlain_NeverPlain := x33
  have is_NotPlain_TwoWays := x34
  have is_NotPlain_TooMany := x35
  have is_NotPlain_OtherSigns := x36
  have is_NotPlain_NotPlain := x37
  have is_NotPlain_NoRoom := x38
  have is_NotPlain_NoWay := x39
  have iv_NotPlain_ValueError := x40
  have is_TooMany_NoText := x41
  have is_TooMany_NeverPlain := x42
  have is_TooMany_TwoWays := x43
  have is_TooMany_TooMany := x44
  have is_TooMany_OtherSigns := x45
  have is_TooMany_NotPlain := x46
  have is_TooMany_NoRoom := x47
  have is_TooMany_NoWay := x48
  have iv_TooMany_ValueError := x49
  have XB : Xb K mg c_ScribeError c_NoWay c_NoRoom c_NotPlain c_OtherSigns c_TooMany c_TwoWays c_NeverPlain c_NoText := ⟨nm_ScribeError, nm_NoWay, nm_NoRoom, nm_NotPlain, nm_OtherSigns, nm_TooMany, nm_TwoWays, nm_NeverPlain, nm_NoText, own_NotPlain, xc_NotPlain, own_TooMany, xc_TooMany, cl_ScribeError, sub_NotPlain_ScribeError, sub_TooMany_ScribeError, is_NotPlain_NoText, is_NotPlain_NeverPlain, is_NotPlain_TwoWays, is_NotPlain_TooMany, is_NotPlain_OtherSigns, is_NotPlain_NotPlain, is_NotPlain_NoRoom, is_NotPlain_NoWay, iv_NotPlain_ValueError, is_TooMany_NoText, is_TooMany_NeverPlain, is_TooMany_TwoWays, is_TooMany_TooMany, is_TooMany_OtherSigns, is_TooMany_NotPlain, is_TooMany_NoRoom, is_TooMany_NoWay, iv_TooMany_ValueError⟩
  have F0 := fun_mk (st := s_all_unlike) l0 c0 k0
  have F1 := fun_mk (st := s_is_plain) l1 c1 k1
  have F2 := fun_mk (st := s_refuse_choices) l2 c2 k2
  have F3 := fun_mk (st := s_steps_by_start) l3 c3 k3
  have F4 := fun_mk (st := s_end_words_by_room) l4 c4 k4
  have F5 := fun_mk (st := s_read_from) l5 c5 k5
  have F6 := fun_mk (st := s_written_for) l6 c6 k6
  have F7 := fun_mk (st := s_refuse_many) l7 c7 k7
  have F8 := fun_mk (st := s_pairs_behind) l8 c8 k8
  have F9 := fun_mk (st := s_all_written) l9 c9 k9
  have F10 := fun_mk (st := s_law_cell_at) l10 c10 k10
  have F11 := fun_mk (st := s_law_digits_at) l11 c11 k11
  have F12 := fun_mk (st := s_law_word) l12 c12 k12
  have F13 := fun_mk (st := s_law_scribe) l13 c13 k13
  have F14 := fun_mk (st := s_law_run) l14 c14 k14
  have F15 := fun_mk (st := s_law_text) l15 c15 k15
  have F16 := fun_mk (st := s_law_copied) l16 c16 k16
  have F17 := fun_mk (st := s_law_kinds) l17 c17 k17
  have F18 := fun_mk (st := s_law_plain) l18 c18 k18
  have F19 := fun_mk (st := s_law_asked) l19 c19 k19
  have F20 := fun_mk (st := s_law) l20 c20 k20
  refine ⟨PySem.W.fnOf "law" "law" (defArgs s_law) (defBody s_law) (defScope s_law) .none kV20 dc20 pm20 an20 cd20 ct20, fun s v => .of_eq rfl, fun base _ _ => ?_⟩
  have C_all_unlike : Cal l.prog w K mg base "all_unlike" ["parts"] 1 (spUnlike K) := ⟨_, _, ok_all_unlike (P := l.prog) (w := w) (base := base) B XB  F0, F0.binds (ps := ["parts"]) (fun _ _ _ _ _ _ us hl => by obtain ⟨u0, rfl⟩ := len_1 hl; rfl), F0.kp, PySem.W.mg_of X G a0⟩
  have C_is_plain : Cal l.prog w K mg base "is_plain" ["scribe"] 2 (spPlain K) := ⟨_, _, ok_is_plain (P := l.prog) (w := w) (base := base) B XB C_all_unlike F1, F1.binds (ps := ["scribe"]) (fun _ _ _ _ _ _ us hl => by obtain ⟨u0, rfl⟩ := len_1 hl; rfl), F1.kp, PySem.W.mg_of X G a1⟩
  have C_refuse_choices : Cal1 l.prog w K mg base "refuse_choices" ["scribe"] 3 (spChoices K c_NotPlain) := ⟨_, _, ok_refuse_choices (P := l.prog) (w := w) (base := base) B XB C_is_plain F2, F2.binds (ps := ["scribe"]) (fun _ _ _ _ _ _ us hl => by obtain ⟨u0, rfl⟩ := len_1 hl; rfl), F2.kp, PySem.W.mg_of X G a2⟩
  have C_steps_by_start : Cal l.prog w K mg base "steps_by_start" ["scribe"] 1 (spSteps K) := ⟨_, _, ok_steps_by_start (P := l.prog) (w := w) (base := base) B XB  F3, F3.binds (ps := ["scribe"]) (fun _ _ _ _ _ _ us hl => by obtain ⟨u0, rfl⟩ := len_1 hl; rfl), F3.kp, PySem.W.mg_of X G a3⟩
  have C_end_words_by_room : Cal l.prog w K mg base "end_words_by_room" ["scribe"] 1 (spEnds K) := ⟨_, _, ok_end_words_by_room (P := l.prog) (w := w) (base := base) B XB  F4, F4.binds (ps := ["scribe"]) (fun _ _ _ _ _ _ us hl => by obtain ⟨u0, rfl⟩ := len_1 hl; rfl), F4.kp, PySem.W.mg_of X G a4⟩
  have C_read_from : Cal l.prog w K mg base "read_from" ["steps", "room", "text"] 1 (spReadFrom K) := ⟨_, _, ok_read_from (P := l.prog) (w := w) (base := base) B XB  F5, F5.binds (ps := ["steps", "room", "text"]) (fun _ _ _ _ _ _ us hl => by obtain ⟨u0, u1, u2, rfl⟩ := len_3 hl; rfl), F5.kp, PySem.W.mg_of X G a5⟩
  have C_written_for : Cal1 l.prog w K mg base "written_for" ["scribe", "text"] 4 (spWritten K c_NotPlain) := ⟨_, _, ok_written_for (P := l.prog) (w := w) (base := base) B XB C_refuse_choices C_read_from C_end_words_by_room C_steps_by_start F6, F6.binds (ps := ["scribe", "text"]) (fun _ _ _ _ _ _ us hl => by obtain ⟨u0, u1, rfl⟩ := len_2 hl; rfl), F6.kp, PySem.W.mg_of X G a6⟩
  have C_refuse_many : Cal1 l.prog w K mg base "refuse_many" ["pairs"] 1 (spRefuse K c_TooMany) := ⟨_, _, ok_refuse_many (P := l.prog) (w := w) (base := base) B XB  F7, F7.binds (ps := ["pairs"]) (fun _ _ _ _ _ _ us hl => by obtain ⟨u0, rfl⟩ := len_1 hl; rfl), F7.kp, PySem.W.mg_of X G a7⟩
  have C_pairs_behind : Cal1 l.prog w K mg base "pairs_behind" ["pairs", "sign", "steps"] 2 (spPairs K c_TooMany) := ⟨_, _, ok_pairs_behind (P := l.prog) (w := w) (base := base) B XB C_refuse_many F8, F8.binds (ps := ["pairs", "sign", "steps"]) (fun _ _ _ _ _ _ us hl => by obtain ⟨u0, u1, u2, rfl⟩ := len_3 hl; rfl), F8.kp, PySem.W.mg_of X G a8⟩
  have C_all_written : Cal1 l.prog w K mg base "all_written" ["scribe", "text"] 3 (spAllW K c_TooMany) := ⟨_, _, ok_all_written (P := l.prog) (w := w) (base := base) B XB C_refuse_many C_steps_by_start C_end_words_by_room C_pairs_behind F9, F9.binds (ps := ["scribe", "text"]) (fun _ _ _ _ _ _ us hl => by obtain ⟨u0, u1, rfl⟩ := len_2 hl; rfl), F9.kp, PySem.W.mg_of X G a9⟩
  have C_law_cell_at : Cal l.prog w K mg base "_law_cell_at" ["_law_script", "_law_k"] 1 (spCell K) := ⟨_, _, ok_law_cell_at (P := l.prog) (w := w) (base := base) B XB  F10, F10.binds (ps := ["_law_script", "_law_k"]) (fun _ _ _ _ _ _ us hl => by obtain ⟨u0, u1, rfl⟩ := len_2 hl; rfl), F10.kp, PySem.W.mg_of X G a10⟩
  have C_law_digits_at : Cal l.prog w K mg base "_law_digits_at" ["_law_script", "_law_k"] 2 (spDigits K) := ⟨_, _, ok_law_digits_at (P := l.prog) (w := w) (base := base) B XB C_law_cell_at F11, F11.binds (ps := ["_law_script", "_law_k"]) (fun _ _ _ _ _ _ us hl => by obtain ⟨u0, u1, rfl⟩ := len_2 hl; rfl), F11.kp, PySem.W.mg_of X G a11⟩
  have C_law_word : Cal l.prog w K mg base "_law_word" ["_law_cell"] 1 (spWord) := ⟨_, _, ok_law_word (P := l.prog) (w := w) (base := base) B XB  F12, F12.binds (ps := ["_law_cell"]) (fun _ _ _ _ _ _ us hl => by obtain ⟨u0, rfl⟩ := len_1 hl; rfl), F12.kp, PySem.W.mg_of X G a12⟩
  have C_law_scribe : Cal l.prog w K mg base "_law_scribe" ["_law_script", "_law_at", "_law_plain_here"] 3 (spScribe K) := ⟨_, _, ok_law_scribe (P := l.prog) (w := w) (base := base) B XB C_law_cell_at C_law_digits_at C_law_word F13, F13.binds (ps := ["_law_script", "_law_at", "_law_plain_here"]) (fun _ _ _ _ _ _ us hl => by obtain ⟨u0, u1, u2, rfl⟩ := len_3 hl; rfl), F13.kp, PySem.W.mg_of X G a13⟩
  have C_law_run : Cal l.prog w K mg base "_law_run" ["_law_scribe_here", "_law_text_here"] 1 (spRun K) := ⟨_, _, ok_law_run (P := l.prog) (w := w) (base := base) B XB  F14, F14.binds (ps := ["_law_scribe_here", "_law_text_here"]) (fun _ _ _ _ _ _ us hl => by obtain ⟨u0, u1, rfl⟩ := len_2 hl; rfl), F14.kp, PySem.W.mg_of X G a14⟩
  have C_law_text : Cal l.prog w K mg base "_law_text" ["_law_cell", "_law_signs"] 1 (spText) := ⟨_, _, ok_law_text (P := l.prog) (w := w) (base := base) B XB  F15, F15.binds (ps := ["_law_cell", "_law_signs"]) (fun _ _ _ _ _ _ us hl => by obtain ⟨u0, u1, rfl⟩ := len_2 hl; rfl), F15.kp, PySem.W.mg_of X G a15⟩
  have C_law_copied : Cal l.prog w K mg base "_law_copied" ["_law_scribe_here"] 1 (spCopied K) := ⟨_, _, ok_law_copied (P := l.prog) (w := w) (base := base) B XB  F16, F16.binds (ps := ["_law_scribe_here"]) (fun _ _ _ _ _ _ us hl => by obtain ⟨u0, rfl⟩ := len_1 hl; rfl), F16.kp, PySem.W.mg_of X G a16⟩
  have C_law_kinds : Cal l.prog w K mg base "_law_kinds" ["_law_kept"] 1 (spKinds K c_NotPlain [false, false, true, false, false, false, false, false, true]) := ⟨_, _, ok_law_kinds (P := l.prog) (w := w) (base := base) B XB  F17, F17.binds (ps := ["_law_kept"]) (fun _ _ _ _ _ _ us hl => by obtain ⟨u0, rfl⟩ := len_1 hl; rfl), F17.kp, PySem.W.mg_of X G a17⟩
  have C_law_plain : Cal l.prog w K mg base "_law_plain" ["_law_scribe_here"] 1 (spPlain K) := ⟨_, _, ok_law_plain (P := l.prog) (w := w) (base := base) B XB  F18, F18.binds (ps := ["_law_scribe_here"]) (fun _ _ _ _ _ _ us hl => by obtain ⟨u0, rfl⟩ := len_1 hl; rfl), F18.kp, PySem.W.mg_of X G a18⟩
  have C_law_asked : Cal l.prog w K mg base "_law_asked" ["_law_scribe_here", "_law_text_here"] 5 (spAsked K c_NotPlain) := ⟨_, _, ok_law_asked (P := l.prog) (w := w) (base := base) B XB C_written_for F19, F19.binds (ps := ["_law_scribe_here", "_law_text_here"]) (fun _ _ _ _ _ _ us hl => by obtain ⟨u0, u1, rfl⟩ := len_2 hl; rfl), F19.kp, PySem.W.mg_of X G a19⟩
  exact ok_law (P := l.prog) (w := w) (base := base) B XB C_law_scribe C_law_copied C_law_asked C_law_plain C_law_cell_at C_law_text C_law_run C_written_for C_all_written C_law_kinds F20
theorem walk {l : PySem.W.OpenLaw} {q : Program} {loose : List Str} {XP : (Str → Option Value) → Heap → Prop} {YP : World → Heap → Prop} {d : DefRec} {K : Params → PySem.W.Frag} (hn : l.most = some 63) (hdf : d.params.defaults = [])
    (hY : ∀ (w : World) (h : Heap), YP w h → (K w.params).In h)
    (F : ∀ (w : World) (mg : Str → Option Value) (fa : Addr) (h : Heap), (K w.params).In h → h.Ns mainGlobals mg → mg d.name = some (.ref fa) →
      ∃ fd : FuncData, (∀ (s : Shared) (u : Value), BindsTo s fd ⟨[u], []⟩ [("_law_script", u)]) ∧ ∀ base : Heap, (K w.params).In base → base.Ns mainGlobals mg → FnOk l.prog w (K w.params) mg base CX0 6 fa fd ["_law_script"] (spLaw (K w.params))) :
    PySem.W.WalkO q loose XP YP l.row.toRowW d [] (fun f vs => PySem.call f vs) :=
  L2.walk_of (n := 63) (k := 6) (x := "_law_script") (CX := fun _ => CX0) (sp := fun w => spLaw (K w.params)) hn (by decide) hdf ⟨rfl, by decide, by decide⟩ hY F (fun _ _ a ns hl _ hS => ⟨a, ns, rfl, hS, hl, fun _ => rfl⟩) fun _ _ _ _ _ z => z
end My
open PySem PySem.W PyProof.Rows
set_option maxRecDepth 100000 in
set_option maxHeartbeats 0 in
theorem PySem.Challenge.cw_earlyscribe_k14_written_for_holds : PySem.Challenge.rw_earlyscribe_k14_written_for.Holds := by
  w_on; o_law; k_head; (case hw => w_witness2)
  k_fill
  refine My.walk (l := PySem.Challenge.rw_earlyscribe_k14_written_for) rfl rfl (fun w h Y => PySem.W.kIn_of Y) ?F
  case F =>
    intro w mg fa h KX G hmg
    refine' My.all_mk KX G hmg ?a0 ?l0 ?c0 ?k0 ?a1 ?l1 ?c1 ?k1 ?a2 ?l2 ?c2 ?k2 ?a3 ?l3 ?c3 ?k3 ?a4 ?l4 ?c4 ?k4 ?a5 ?l5 ?c5 ?k5 ?a6 ?l6 ?c6 ?k6 ?a7 ?l7 ?c7 ?k7 ?a8 ?l8 ?c8 ?k8 ?a9 ?l9 ?c9 ?k9 ?a10 ?l10 ?c10 ?k10 ?a11 ?l11 ?c11 ?k11 ?a12 ?l12 ?c12 ?k12 ?a13 ?l13 ?c13 ?k13 ?a14 ?l14 ?c14 ?k14 ?a15 ?l15 ?c15 ?k15 ?a16 ?l16 ?c16 ?k16 ?a17 ?l17 ?c17 ?k17 ?a18 ?l18 ?c18 ?k18 ?a19 ?l19 ?c19 ?k19 ?a20 ?l20 ?c20 ?k20 ?z0 ?z1 ?z2 ?z3 ?z4 ?z5 ?z6 ?z7 ?z8 ?z9 ?z10 ?gc0 ?gc1 ?gc2 ?gc3 ?xq0 ?xq1 ?xq2 ?xq3 ?xq4 ?xq5 ?xq6 ?xq7 ?xq8 ?xq9 ?xq10 ?xq11 ?xq12 ?xq13 ?xq14 ?xq15 ?xq16 ?xq17 ?xq18 ?xq19 ?xq20 ?xq21 ?xq22 ?xq23 ?xq24 ?xq25 ?xq26 ?xq27 ?xq28 ?xq29 ?xq30 ?xq31 ?xq32 ?xq33 ?xq34 ?xq35 ?xq36 ?xq37 ?xq38 ?xq39 ?xq40 ?xq41 ?xq42 ?xq43 ?xq44 ?xq45 ?xq46 ?xq47 ?xq48 ?xq49
    (case a0 => k_is); (case l0 => k_is); (case c0 => k_is); (case k0 => k_is)
    (case a1 => k_is); (case l1 => k_is); (case c1 => k_is); (case k1 => k_is)
    (case a2 => k_is); (case l2 => k_is); (case c2 => k_is); (case k2 => k_is)
    (case a3 => k_is); (case l3 => k_is); (case c3 => k_is); (case k3 => k_is)
    (case a4 => k_is); (case l4 => k_is); (case c4 => k_is); (case k4 => k_is)
    (case a5 => k_is); (case l5 => k_is); (case c5 => k_is); (case k5 => k_is)
    (case a6 => k_is); (case l6 => k_is); (case c6 => k_is); (case k6 => k_is)
    (case a7 => k_is); (case l7 => k_is); (case c7 => k_is); (case k7 => k_is)
    (case a8 => k_is); (case l8 => k_is); (case c8 => k_is); (case k8 => k_is)
    (case a9 => k_is); (case l9 => k_is); (case c9 => k_is); (case k9 => k_is)
    (case a10 => k_is); (case l10 => k_is); (case c10 => k_is); (case k10 => k_is)
    (case a11 => k_is); (case l11 => k_is); (case c11 => k_is); (case k11 => k_is)
    (case a12 => k_is); (case l12 => k_is); (case c12 => k_is); (case k12 => k_is)
    (case a13 => k_is); (case l13 => k_is); (case c13 => k_is); (case k13 => k_is)
    (case a14 => k_is); (case l14 => k_is); (case c14 => k_is); (case k14 => k_is)
    (case a15 => k_is); (case l15 => k_is); (case c15 => k_is); (case k15 => k_is)
    (case a16 => k_is); (case l16 => k_is); (case c16 => k_is); (case k16 => k_is)
    (case a17 => k_is); (case l17 => k_is); (case c17 => k_is); (case k17 => k_is)
    (case a18 => k_is); (case l18 => k_is); (case c18 => k_is); (case k18 => k_is)
    (case a19 => k_is); (case l19 => k_is); (case c19 => k_is); (case k19 => k_is)
    (case a20 => k_is); (case l20 => k_is); (case c20 => k_is); (case k20 => k_is)
    (case z0 => k_is)
    (case z1 => k_is)
    (case z2 => k_is)
    (case z3 => k_is)
    (case z4 => k_is)
    (case z5 => k_is)
    (case z6 => k_is)
    (case z7 => k_is)
    (case z8 => k_is)
    (case z9 => k_is)
    (case z10 => k_is)
    (case gc0 => k_is)
    (case gc1 => k_is)
    (case gc2 => k_is)
    (case gc3 => k_is)
    (case xq0 => first | k_is | rfl | kernel_rfl)
    (case xq1 => first | k_is | rfl | kernel_rfl)
    (case xq2 => first | k_is | rfl | kernel_rfl)
    (case xq3 => first | k_is | rfl | kernel_rfl)
    (case xq4 => first | k_is | rfl | kernel_rfl)
    (case xq5 => first | k_is | rfl | kernel_rfl)
    (case xq6 => first | k_is | rfl | kernel_rfl)
    (case xq7 => first | k_is | rfl | kernel_rfl)
    (case xq8 => first | k_is | rfl | kernel_rfl)
    (case xq9 => first | k_is | rfl | kernel_rfl)
    (case xq10 => first | k_is | rfl | kernel_rfl)
    (case xq11 => first | k_is | rfl | kernel_rfl)
    (case xq12 => first | k_is | rfl | kernel_rfl)
    (case xq13 => first | k_is | rfl | kernel_rfl)
    (case xq14 => first | k_is | rfl | kernel_rfl)
    (case xq15 => first | k_is | rfl | kernel_rfl)
    (case xq16 => first | k_is | rfl | kernel_rfl)
    (case xq17 => first | k_is | rfl | kernel_rfl)
    (case xq18 => first | k_is | rfl | kernel_rfl)
    (case xq19 => first | k_is | rfl | kernel_rfl)
    (case xq20 => first | k_is | rfl | kernel_rfl)
    (case xq21 => first | k_is | rfl | kernel_rfl)
    (case xq22 => first | k_is | rfl | kernel_rfl)
    (case xq23 => first | k_is | rfl | kernel_rfl)
    (case xq24 => first | k_is | rfl | kernel_rfl)
    (case xq25 => first | k_is | rfl | kernel_rfl)
    (case xq26 => first | k_is | rfl | kernel_rfl)
    (case xq27 => first | k_is | rfl | kernel_rfl)
    (case xq28 => first | k_is | rfl | kernel_rfl)
    (case xq29 => first | k_is | rfl | kernel_rfl)
    (case xq30 => first | k_is | rfl | kernel_rfl)
    (case xq31 => first | k_is | rfl | kernel_rfl)
    (case xq32 => first | k_is | rfl | kernel_rfl)
    (case xq33 => first | k_is | rfl | kernel_rfl)
    (case xq34 => first | k_is | rfl | kernel_rfl)
    (case xq35 => first | k_is | rfl | kernel_rfl)
    (case xq36 => first | k_is | rfl | kernel_rfl)
    (case xq37 => first | k_is | rfl | kernel_rfl)
    (case xq38 => first | k_is | rfl | kernel_rfl)
    (case xq39 => first | k_is | rfl | kernel_rfl)
    (case xq40 => first | k_is | rfl | kernel_rfl)
    (case xq41 => first | k_is | rfl | kernel_rfl)
    (case xq42 => first | k_is | rfl | kernel_rfl)
    (case xq43 => first | k_is | rfl | kernel_rfl)
    (case xq44 => first | k_is | rfl | kernel_rfl)
    (case xq45 => first | k_is | rfl | kernel_rfl)
    (case xq46 => first | k_is | rfl | kernel_rfl)
    (case xq47 => first | k_is | rfl | kernel_rfl)
    (case xq48 => first | k_is | rfl | kernel_rfl)
    (case xq49 => first | k_is | rfl | kernel_rfl)
