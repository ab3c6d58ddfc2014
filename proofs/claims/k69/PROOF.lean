import PyProof.Rows.All
import Wide.All
import OpenK.AllK
import Wide.FinOn
import Lean
import PyProof.EqAt
import PyProof.EqKinds
import PyProof.TupleCall
import PySem.Challenge.RW_earlyscribe_k69_whole_words_from_the_end
set_option maxHeartbeats 4000000
set_option Elab.async false
set_option linter.all false
set_option maxRecDepth 100000
/-! THE HAND LAYER, for ints, bools, texts, own classes, LISTS and tuples (index, slices, in, append, pop ..), calls, loops. Paste it whole ahead of your own text; what your proof does not reach may be deleted. -/
namespace L2
open PySem PySem.Spec PyProof.Rows

abbrev Key := Sum Int Str
def keyIs : Key → Value → Bool
  | .inl k, v => Value.isInt k v
  | .inr x, v => Value.isStrOf x v
def keyH (w : World) : Key → Int
  | .inl k => hashInt k
  | .inr x => hashStr w x
theorem keyIs_shape : ∀ {k : Key} {v : Value}, keyIs k v = true → (∃ i t, k = Sum.inl i ∧ v = Value.int i t) ∨ (∃ x t, k = Sum.inr x ∧ v = Value.str x t)
  | .inl i, v, h => by
    obtain ⟨t, e⟩ := Value.isInt_shape (k := i) (v := v) h
    exact .inl ⟨i, t, rfl, e⟩
  | .inr x, v, h => by
    obtain ⟨t, e⟩ := Value.isStrOf_shape (x := x) (v := v) h
    exact .inr ⟨x, t, rfl, e⟩
theorem keyIs_int (i : Int) (t : Tok) : keyIs (.inl i) (.int i t) = true := by simp [keyIs, Value.isInt]
theorem keyIs_str (x : Str) (t : Tok) : keyIs (.inr x) (.str x t) = true := by simp [keyIs, Value.isStrOf]
theorem key_ll (a b : Int) : decide ((Sum.inl a : Key) = Sum.inl b) = (a == b) := by
  by_cases e : a = b
  · subst e; simp
  · have h : ¬ (Sum.inl a : Key) = Sum.inl b := fun q => e (Sum.inl.inj q)
    rw [decide_eq_false h]
    exact (beq_eq_false_iff_ne.mpr e).symm
theorem key_rr (a b : Str) : decide ((Sum.inr a : Key) = Sum.inr b) = decide (a = b) := by
  by_cases e : a = b
  · subst e; simp
  · have h : ¬ (Sum.inr a : Key) = Sum.inr b := fun q => e (Sum.inr.inj q)
    rw [decide_eq_false h, decide_eq_false e]
theorem key_lr (a : Int) (b : Str) : decide ((Sum.inl a : Key) = Sum.inr b) = false := decide_eq_false (fun q => nomatch q)
theorem key_rl (a : Str) (b : Int) : decide ((Sum.inr a : Key) = Sum.inl b) = false := decide_eq_false (fun q => nomatch q)

def mixKind (prog : Program) (w : World) : PySem.KeyKind prog w Key where
  is := keyIs
  hash := keyH w
  inj := fun v a b ha hb => by
    rcases keyIs_shape ha with ⟨i, t, rfl, rfl⟩ | ⟨x, t, rfl, rfl⟩
    · rcases keyIs_shape hb with ⟨j, u, rfl, e⟩ | ⟨y, u, rfl, e⟩
      · injection e with e1 _; rw [e1]
      · exact nomatch e
    · rcases keyIs_shape hb with ⟨j, u, rfl, e⟩ | ⟨y, u, rfl, e⟩
      · exact nomatch e
      · injection e with e1 _; rw [e1]
  byValue := fun k v h => by
    rcases keyIs_shape h with ⟨i, t, rfl, rfl⟩ | ⟨x, t, rfl, rfl⟩ <;> rfl
  pyHash := fun hv h => by
    rcases keyIs_shape hv with ⟨i, t, rfl, rfl⟩ | ⟨x, t, rfl, rfl⟩
    · exact wpAny_pyHash_int h
    · exact wpAny_pyHash_str h
  eqBool := fun hu hv h => by
    rcases keyIs_shape hu with ⟨i, t, rfl, rfl⟩ | ⟨x, t, rfl, rfl⟩
    · rcases keyIs_shape hv with ⟨j, u, rfl, rfl⟩ | ⟨y, u, rfl, rfl⟩
      · rw [key_ll] at h; exact wpAny_eqBool_int h
      · rw [key_lr] at h; exact SeqAt.EqAt.int_str i t y u _ _ _ _ h
    · rcases keyIs_shape hv with ⟨j, u, rfl, rfl⟩ | ⟨y, u, rfl, rfl⟩
      · rw [key_rl] at h; exact SeqAt.EqAt.str_int x t j u _ _ _ _ h
      · rw [key_rr] at h; exact wpAny_eqBool_str h
  «strs» := fun k x t v h => by
    rcases keyIs_shape h with ⟨i, u, rfl, e⟩ | ⟨y, u, rfl, e⟩
    · exact nomatch e
    · injection e with e1 _
      subst e1
      cases v <;> rfl

theorem mixKind_int (prog : Program) (w : World) (i : Int) (t : Tok) : (mixKind prog w).is (.inl i) (.int i t) = true := keyIs_int i t
theorem mixKind_str (prog : Program) (w : World) (x : Str) (t : Tok) : (mixKind prog w).is (.inr x) (.str x t) = true := keyIs_str x t
end L2

namespace L2
open PySem PySem.Spec PyProof.Rows

inductive V where
  | non | bl (b : Bool) | int (i : Int) | str (x : Str) | byt (b : Array UInt8) | flt (b : UInt64) | ref (a : Addr) | ty (n : String)
  deriving DecidableEq

def RelV : V → Value → Prop
  | .non, u => u = Value.none
  | .bl b, u => u = Value.bool b
  | .int i, u => ∃ t, u = Value.int i t
  | .str x, u => ∃ t, u = Value.str x t
  | .byt b, u => ∃ t, u = Value.bytes b t
  | .flt b, u => ∃ t, u = Value.float b t
  | .ref a, u => u = Value.ref a
  | .ty n, u => u = Value.type n

abbrev Vals : List V → List Value → Prop := Paired RelV
theorem Vals.length {xs : List V} {us : List Value} (r : Vals xs us) : xs.length = us.length := Paired.length r
theorem Vals.get : ∀ {xs : List V} {us : List Value} {i : Nat} {x : V}, Vals xs us → xs[i]? = some x → ∃ u, us[i]? = some u ∧ RelV x u
  | _, _, _, _, .nil, e => by simp at e
  | _, _, 0, _, .cons r _, e => by simp at e; subst e; exact ⟨_, rfl, r⟩
  | _, _, i + 1, x, .cons _ t, e => by
    obtain ⟨u, h1, h2⟩ := Vals.get (i := i) (x := x) t (by simpa using e)
    exact ⟨u, by simpa using h1, h2⟩
theorem Vals.append : ∀ {xs ys : List V} {us ws : List Value}, Vals xs us → Vals ys ws → Vals (xs ++ ys) (us ++ ws)
  | _, _, _, _, .nil, s => s
  | _, _, _, _, .cons r t, s => .cons r (Vals.append t s)
theorem Vals.take : ∀ {xs : List V} {us : List Value} (n : Nat), Vals xs us → Vals (xs.take n) (us.take n)
  | _, _, 0, _ => .nil
  | _, _, _ + 1, .nil => .nil
  | _, _, n + 1, .cons r t => .cons r (Vals.take n t)
theorem Vals.drop : ∀ {xs : List V} {us : List Value} (n : Nat), Vals xs us → Vals (xs.drop n) (us.drop n)
  | _, _, 0, r => r
  | _, _, _ + 1, .nil => .nil
  | _, _, n + 1, .cons _ t => Vals.drop n t
def RelO : Option V → Option Value → Prop
  | some v, some u => RelV v u
  | none, none => True
  | _, _ => False
def KV {κ : Type} : List (κ × V) → List (κ × Value) → Prop := Paired fun (p : κ × V) (q : κ × Value) => p.1 = q.1 ∧ RelV p.2 q.2

def kV : Key → V
  | .inl i => .int i
  | .inr x => .str x

inductive HO where
  /-- a list -/
  | lst (xs : List V)
  /-- a tuple (never changes) -/
  | tup (xs : List V)
  /-- a dict whose keys are ints and texts; one whose keys are tuples of ints and texts (the empty one is both) -/
  | dK (kvs : List (Key × V)) | dT (kvs : List (List Key × V))
  /-- a set of ints: its members, its size -/
  | set (S : Int → Bool) (n : Nat)
  /-- an instance of the class at C, its dict at dx, its attributes -/
  | ins (C dx : Addr) (fs : List (Str × V))
  /-- the dict of the instance at x -/
  | own (x : Addr)
  /-- the dict of an exception -/
  | xd (fs : List (Str × V))
  /-- a bound method, f of x -/
  | met (f x : Addr)
  /-- a range object lo, lo + 1, .. below hi -/
  | rng (lo hi : Int)
  /-- a thing that is known to the object (the script; a dict while a loop walks it): read, never written while it is so -/
  | frz (o : Obj) (u : HO)
  /-- a code object's table -/
  | tbl (ps : Array Value)
  /-- any other thing, by what is true of its one object (a def of one's own: SetO a S n := HO.ext fun h => ..) -/
  | ext (φ : Heap → Prop)

abbrev Hp := Addr → Option HO
def upd (H : Hp) (a : Addr) (o : HO) : Hp := fun b => if b = a then some o else H b
theorem upd_same {H : Hp} {a : Addr} {o : HO} : upd H a o a = some o := by unfold upd; rw [if_pos rfl]
theorem upd_ne {H : Hp} {a b : Addr} {o : HO} (h : b ≠ a) : upd H a o b = H b := by unfold upd; rw [if_neg h]
theorem ne_of {H : Hp} {a b : Addr} {o u : HO} (h : H a = some o) (h' : H b = some u) (d : o ≠ u) : a ≠ b := by
  intro e; subst e; rw [h] at h'; exact d (Option.some.inj h')
theorem ne_of_none {H : Hp} {a b : Addr} {o : HO} (h : H a = some o) (h' : H b = none) : a ≠ b := by
  intro e; subst e; rw [h] at h'; cases h'

section
variable (P : Program) (w : World)
def ObjOk (H : Hp) (h : Heap) (a : Addr) : HO → Prop
  | .lst xs => xs.length ≤ sizeLine ∧ ∃ (its : List Value) (n : Nat), Vals xs its ∧ h.get? a = some { cls := .type "list", data := .seq its.toArray n }
  | .tup xs => xs.length ≤ sizeLine ∧ ∃ its : List Value, Vals xs its ∧ IsTup h a its.toArray
  | .dK kvs => kvs.length ≤ sizeLine ∧ (a == sysModules) = false ∧ ∃ vs, KV kvs vs ∧ h.DictOf (mixKind P w) a vs
  | .dT kvs => kvs.length ≤ sizeLine ∧ (a == sysModules) = false ∧ ∃ xs : List (List Key × Addr × Value),
      Paired (fun (p : List Key × V) (q : List Key × Addr × Value) => p.1 = q.1 ∧ H q.2.1 = some (.tup (p.1.map kV)) ∧ RelV p.2 q.2.2) kvs xs ∧
      ∃ o es ep, h.get? a = some o ∧ o.ExactDict ∧ o.data = .dict es ep ∧ es.toList = xs.map (entryOfKey (tupleKind (mixKind P w))) ∧ (xs.map (·.1)).Nodup
  | .set S n => h.SetOf (intKind P w) a S n
  | .ins C dx fs => H dx = some (.own a) ∧ fs.length ≤ 1000 ∧ dx ≠ a ∧ h.get? a = some (PySem.W.instObj C dx) ∧
      ∃ mA, h.Ns1 dx mA ∧ (∀ f, RelO (fs.lookup f) (mA f)) ∧ PySem.Within mA (fs.map (·.1))
  | .own _ => ∃ o, h.get? a = some o
  | .xd fs => ∃ mA, h.Ns1 a mA ∧ ∀ f, RelO (fs.lookup f) (mA f)
  | .rng lo hi => ∃ t u v, h.get? a = some { cls := .type "range", data := .fields #[.int lo t, .int hi u, .int 1 v] }
  | .frz o u => h.get? a = some o ∧ ObjOk H h a u
  | .tbl ps => h.get? a = some { cls := .none, data := .fields ps }
  | .met f x => h.get? a = some (PySem.W.methodObj (.ref f) (.ref x))
  | .ext φ => φ h ∧ (∃ o, h.get? a = some o) ∧ ∀ h1 h2 : Heap, φ h1 → (∀ o, h1.get? a = some o → h2.get? a = some o) → φ h2
def HOk (H : Hp) (h : Heap) : Prop := ∀ a o, H a = some o → ObjOk P w H h a o
end

section
variable {P : Program} {w : World} {H H' : Hp} {h h' : Heap} {a : Addr} {o : HO}
theorem ObjOk.lt (x : ObjOk P w H h a o) : a < h.objs.size := by
  cases o with
  | lst xs => obtain ⟨_, _, _, _, e⟩ := x; exact Heap.lt_size e
  | tup xs => obtain ⟨_, _, _, p⟩ := x; exact p.lt
  | dK kvs => obtain ⟨_, _, _, _, o, _, _, e, _⟩ := x; exact Heap.lt_size e
  | dT kvs => obtain ⟨_, _, _, _, o, _, _, e, _⟩ := x; exact Heap.lt_size e
  | set S n => obtain ⟨o, _, _, _, e, _⟩ := x; exact Heap.lt_size e
  | ins C dx fs => obtain ⟨_, _, _, e, _⟩ := x; exact Heap.lt_size e
  | own y => obtain ⟨_, e⟩ := x; exact Heap.lt_size e
  | xd fs => obtain ⟨_, ⟨_, _, _, e, _⟩, _⟩ := x; exact Heap.lt_size e
  | rng lo hi => obtain ⟨_, _, _, e⟩ := x; exact Heap.lt_size e
  | frz ob u => obtain ⟨e, _⟩ := x; exact Heap.lt_size e
  | tbl ps => exact Heap.lt_size (show h.get? a = some _ from x)
  | met f y => exact Heap.lt_size (show h.get? a = some _ from x)
  | ext φ => obtain ⟨_, ⟨_, e⟩, _⟩ := x; exact Heap.lt_size e
theorem Paired.mapP {α β : Type} {F G : α → β → Prop} : ∀ {l₁ : List α} {l₂ : List β}, Paired F l₁ l₂ → (∀ a b, F a b → G a b) → Paired G l₁ l₂
  | _, _, .nil, _ => .nil
  | _, _, .cons r t, f => .cons (f _ _ r) (Paired.mapP t f)
theorem ObjOk.stay (x : ObjOk P w H h a o) (k : ∀ b u, (b = a ∨ H b = some (.own a)) → h.get? b = some u → h'.get? b = some u)
    (ho : ∀ b, H b = some (.own a) → H' b = some (.own a)) (ht : ∀ b xs, H b = some (.tup xs) → H' b = some (.tup xs)) : ObjOk P w H' h' a o := by
  induction o with
  | lst xs => obtain ⟨z, its, n, r, e⟩ := x; exact ⟨z, its, n, r, k _ _ (.inl rfl) e⟩
  | tup xs => obtain ⟨z, its, r, ob, e, c⟩ := x; exact ⟨z, its, r, ob, k _ _ (.inl rfl) e, c⟩
  | dK kvs => obtain ⟨z, y, vs, r, ob, es, ep, e, c⟩ := x; exact ⟨z, y, vs, r, ob, es, ep, k _ _ (.inl rfl) e, c⟩
  | dT kvs =>
    obtain ⟨z, y, xs, r, ob, es, ep, e, c⟩ := x
    exact ⟨z, y, xs, Paired.mapP r fun p q z => ⟨z.1, ht _ _ z.2.1, z.2.2⟩, ob, es, ep, k _ _ (.inl rfl) e, c⟩
  | set S n => obtain ⟨ob, es, ep, t, e, c⟩ := x; exact ⟨ob, es, ep, t, k _ _ (.inl rfl) e, c⟩
  | ins C dx fs =>
    obtain ⟨d, z, ne, e, mA, ⟨od, es, ep, e2, c⟩, r⟩ := x
    exact ⟨ho _ d, z, ne, k _ _ (.inl rfl) e, mA, ⟨od, es, ep, k _ _ (.inr d) e2, c⟩, r⟩
  | own y => obtain ⟨ob, e⟩ := x; exact ⟨ob, k _ _ (.inl rfl) e⟩
  | xd fs => obtain ⟨mA, ⟨od, es, ep, e, c⟩, r⟩ := x; exact ⟨mA, ⟨od, es, ep, k _ _ (.inl rfl) e, c⟩, r⟩
  | rng lo hi => obtain ⟨t, u, v, e⟩ := x; exact ⟨t, u, v, k _ _ (.inl rfl) e⟩
  | frz ob u ih => obtain ⟨e, q⟩ := x; exact ⟨k _ _ (.inl rfl) e, ih q⟩
  | tbl ps =>
    have e : h.get? a = some { cls := .none, data := .fields ps } := x
    show h'.get? a = some { cls := .none, data := .fields ps }
    exact k a _ (.inl rfl) e
  | met f y =>
    have e : h.get? a = some (PySem.W.methodObj (.ref f) (.ref y)) := x
    show h'.get? a = some (PySem.W.methodObj (.ref f) (.ref y))
    exact k a _ (.inl rfl) e
  | ext φ => obtain ⟨p, ⟨o, e⟩, st⟩ := x; exact ⟨st _ _ p fun o q => k _ _ (.inl rfl) q, ⟨o, k _ _ (.inl rfl) e⟩, st⟩
theorem HOk.lt (x : HOk P w H h) (e : H a = some o) : a < h.objs.size := (x a o e).lt
theorem HOk.fresh (x : HOk P w H h) (e : h.objs.size ≤ a) : H a = none := by
  cases q : H a with
  | none => rfl
  | some u => exact absurd (Nat.lt_of_lt_of_le (x.lt q) e) (Nat.lt_irrefl _)
theorem HOk.kept (x : HOk P w H h) (k : ∀ b u, h.get? b = some u → h'.get? b = some u) : HOk P w H h' := fun a o e =>
  (x a o e).stay (fun b u _ q => k b u q) (fun _ q => q) fun _ _ q => q
theorem HOk.laid (x : HOk P w H h) (k : ∀ b u, h.get? b = some u → h'.get? b = some u) (hp : h.objs.size ≤ a) (new : ObjOk P w (upd H a o) h' a o) : HOk P w (upd H a o) h' := fun b u e => by
  have hn := x.fresh hp
  by_cases hb : b = a
  · subst hb; rw [upd_same] at e; cases e; exact new
  · rw [upd_ne hb] at e
    exact (x b u e).stay (fun c v _ q => k c v q) (fun c q => by rw [upd_ne (ne_of_none q hn)]; exact q) fun c xs q => by rw [upd_ne (ne_of_none q hn)]; exact q
end

def Rd (H : Hp) (a : Addr) (u : HO) : Prop := H a = some u ∨ ∃ o, H a = some (.frz o u)
theorem Rd.ok {P : Program} {w : World} {H : Hp} {h : Heap} {a : Addr} {u : HO} (r : Rd H a u) (x : HOk P w H h) : ObjOk P w H h a u := by
  rcases r with r | ⟨o, r⟩
  · exact x a u r
  · obtain ⟨_, q⟩ := x a _ r
    exact q
def Mut : Option HO → Prop
  | some (.lst _) => True
  | some (.dK _) => True
  | some (.dT _) => True
  | some (.set _ _) => True
  | some (.ins _ _ _) => True
  | some (.ext _) => True
  | _ => False
section
variable {P : Program} {w : World} {H : Hp} {h h' : Heap} {x e : Addr} {o' : HO}
theorem HOk.write (ok : HOk P w H h) (mu : Mut (H x)) (he : e = x ∨ H e = some (.own x)) (k : ∀ b u, b ≠ e → h.get? b = some u → h'.get? b = some u) (heo : ∃ u, h'.get? e = some u)
    (new : ObjOk P w (upd H x o') h' x o') : HOk P w (upd H x o') h' := fun b u q => by
  have nown : ∀ c y, H c = some (.own y) → c ≠ x := fun c y r z => by subst z; rw [r] at mu; exact mu
  have ntup : ∀ c xs, H c = some (.tup xs) → c ≠ x := fun c xs r z => by subst z; rw [r] at mu; exact mu
  by_cases hb : b = x
  · subst hb; rw [upd_same] at q; cases q; exact new
  · rw [upd_ne hb] at q
    by_cases hbe : b = e
    · have q' : H b = some (.own x) := by
        rcases he with z | z
        · exact absurd (hbe.trans z) hb
        · rw [hbe]; exact z
      rw [q] at q'; cases q'
      obtain ⟨v, hv⟩ := heo
      exact ⟨v, by rw [hbe]; exact hv⟩
    · refine (ok b u q).stay (fun c v hc r => k c v ?_ r) (fun c r => by rw [upd_ne (nown c b r)]; exact r) fun c xs r => by rw [upd_ne (ntup c xs r)]; exact r
      rcases hc with rfl | hc
      · exact hbe
      · rintro rfl
        rcases he with z | z
        · exact nown c b hc z
        · rw [hc] at z; cases z; exact hb rfl
end

/-! ### kept unless tracked; of the frames at fs (the callers') the slots may change (an exception that passes writes there); of the records at ex (iterators) nothing is said -/
structure Un (fs ex : List Addr) (H H' : Hp) (h h' : Heap) : Prop where
  keep : ∀ b o, h.get? b = some o → H b = none → b ∉ fs → b ∉ ex → h'.get? b = some o
  slot : ∀ b o, h.get? b = some o → H b = none → b ∈ fs → b ∉ ex → ∃ sl, h'.get? b = some { o with slots := sl }
  free : ∀ b o, h.get? b = some o → H b = none → b ∉ ex → H' b = none
  there : ∀ b o, h.get? b = some o → b ∉ ex → ∃ o', h'.get? b = some o'
  tups : ∀ b xs, H b = some (.tup xs) → H' b = some (.tup xs)
  frzs : ∀ b o u, H b = some (.frz o u) → H' b = some (.frz o u)
  tbls : ∀ b ps, H b = some (.tbl ps) → ∃ more, H' b = some (.tbl (ps ++ more))
section
variable {fs fs' ex ex' : List Addr} {H H1 H2 : Hp} {h h1 h2 h' : Heap} {a x e : Addr} {o : HO}
theorem Un.any (u : Un fs ex H H1 h h1) {b : Addr} {ob : Obj} (q : h.get? b = some ob) (n : H b = none) (hx : b ∉ ex) : ∃ sl, h1.get? b = some { ob with slots := sl } := by
  by_cases hb : b ∈ fs
  · exact u.slot b ob q n hb hx
  · exact ⟨ob.slots, u.keep b ob q n hb hx⟩
theorem Un.kept (k : ∀ b u, h.get? b = some u → h'.get? b = some u) : Un fs ex H H h h' :=
  ⟨fun b ob q _ _ _ => k b ob q, fun b ob q _ _ _ => ⟨ob.slots, k b ob q⟩, fun _ _ _ n _ => n, fun b ob q _ => ⟨ob, k b ob q⟩, fun _ _ q => q, fun _ _ _ q => q, fun _ ps q => ⟨#[], by rw [q]; simp⟩⟩
theorem Un.refl : Un fs ex H H h h := Un.kept fun _ _ q => q
theorem Un.laid (k : ∀ b u, h.get? b = some u → h'.get? b = some u) (hp : h.objs.size ≤ a) (hn : H a = none) : Un fs ex H (upd H a o) h h' where
  keep := fun b u q _ _ _ => k b u q
  slot := fun b u q _ _ _ => ⟨u.slots, k b u q⟩
  free := fun b u q n _ => by rw [upd_ne (Nat.ne_of_lt (Nat.lt_of_lt_of_le (Heap.lt_size q) hp))]; exact n
  there := fun b u q _ => ⟨u, k b u q⟩
  tups := fun b xs q => by rw [upd_ne (ne_of_none q hn)]; exact q
  frzs := fun b u xs q => by rw [upd_ne (ne_of_none q hn)]; exact q
  tbls := fun b ps q => ⟨#[], by rw [upd_ne (ne_of_none q hn), q]; simp⟩
theorem Un.write (mu : Mut (H x)) (he : e = x ∨ H e = some (.own x)) (k : ∀ b u, b ≠ e → h.get? b = some u → h'.get? b = some u) (heo : ∃ u, h'.get? e = some u) : Un fs ex H (upd H x o) h h' := by
  have hx : ∀ b, H b = none → b ≠ x := fun b n z => by subst z; rw [n] at mu; exact mu
  have hb : ∀ b, H b = none → b ≠ e := fun b n z => by
    subst z
    rcases he with r | r
    · exact hx b n r
    · rw [n] at r; cases r
  have hm : ∀ b u, H b = some u → ¬ Mut (some u) → b ≠ x := fun b u q nm z => by subst z; rw [q] at mu; exact nm mu
  refine ⟨fun b u q n _ _ => k b u (hb b n) q, fun b u q n _ _ => ⟨u.slots, k b u (hb b n) q⟩, fun b u q n _ => by rw [upd_ne (hx b n)]; exact n, fun b u q _ => ?_,
    fun b xs q => by rw [upd_ne (hm b _ q fun z => z)]; exact q, fun b u xs q => by rw [upd_ne (hm b _ q fun z => z)]; exact q, fun b ps q => ⟨#[], by rw [upd_ne (hm b _ q fun z => z), q]; simp⟩⟩
  by_cases hbe : b = e
  · subst hbe; exact heo
  · exact ⟨u, k b u hbe q⟩
end

/-! ### the heap without what is tracked -/
def trk (h : Heap) (H : Hp) : List Addr := (List.range h.objs.size).filter fun a => (H a).isSome
def hidT (h : Heap) (H : Hp) : Heap := PySem.W.hideAll h (trk h H)
theorem hidT_size (h : Heap) (H : Hp) : (hidT h H).objs.size = h.objs.size := PySem.W.hideAll_size _ _
theorem hidT_get {h : Heap} {H : Hp} {b : Addr} {o : Obj} (e : h.get? b = some o) (n : H b = none) : (hidT h H).get? b = some o :=
  PySem.W.hideAll_get _ e fun hm => by
    have q : (H b).isSome = true := (List.mem_filter.mp hm).2
    rw [n] at q; simp at q
theorem of_hidT {h : Heap} {H : Hp} {b : Addr} {o : Obj} (e : (hidT h H).get? b = some o) : h.get? b = some o ∧ H b = none := by
  have e' : h.get? b = some o := PySem.W.of_hideAll (trk h H) e
  refine ⟨e', ?_⟩
  cases q : H b with
  | none => rfl
  | some x =>
    have hm : b ∈ trk h H := List.mem_filter.mpr ⟨List.mem_range.mpr (Heap.lt_size e'), by simp [q]⟩
    have z : (hidT h H).get? b = none := PySem.W.hideAll_none (trk h H) hm
    rw [z] at e; cases e

/-! ### OpenK's ledger, filled with every new object but one -/
def allNews (g h : Heap) (L : Addr) : List (Addr × Obj) := (List.range h.objs.size).filterMap fun a => if a = L ∨ (g.get? a).isSome = true then none else (h.get? a).map fun o => (a, o)
def rest (g h : Heap) (L d : Addr) : List (Addr × Obj) := (allNews g h L).filter fun p => decide (p.1 ≠ d)
end L2

namespace L2
open PySem PySem.Spec PyProof.Rows

structure Mod (K : PySem.W.Frag) (mg : Str → Option Value) (base : Heap) : Prop where
  kin : K.In base
  glob : base.Ns mainGlobals mg
  blt : ∃ mb, base.Ns builtinsNs mb ∧ ∀ x : Str, x ≠ "__name__" → mb x = bootBuiltins x
  nolimit : base.NoLimit

/-- the context: a def's body (or a comprehension's block) running. base: fixed through the whole law; s₀, H₀: the entry; outer: the frames whose slots others may change (a def's callers); stack: all frames that run;
   ex: iterators that were made ahead of the entry and are walked here (a comprehension's); fn: the names whose cells were made at the entry (a def: all; a comprehension's block: its own); calm: not within an except suite; pn: pins that every state bears; xe: what is wanted of an exception that leaves the code -/
structure Cx where
  prog : Program
  w : World
  K : PySem.W.Frag
  mg : Str → Option Value
  base : Heap
  A : Around
  N : List Str
  s₀ : Shared
  H₀ : Hp
  env : Env
  outer : List Env
  stack : List Env
  ex : List Addr
  fn : Str → Bool
  calm : Bool
  pn : List (Addr × Obj)
  xe : Value → Shared → Prop
def frs (l : List Env) : List Addr := l.filterMap (·.frame)
abbrev Cx.fs (X : Cx) : List Addr := frs X.outer

def Vis (sc : Scope) (x : Str) : Prop := sc.names.lookup x = some .local ∨ sc.names.lookup x = some .cell ∨ sc.names.lookup x = some .free
def Loc (sc : Scope) (x : Str) : Prop := sc.names.lookup x = some .local ∨ sc.names.lookup x = some .cell
def Look (env : Env) (h : Heap) (m : Str → Option Value) (x : Str) (u : Value) : Prop :=
  (env.kindOf x = some .local ∧ m x = some u) ∨ ((env.kindOf x = some .cell ∨ env.kindOf x = some .free) ∧ ∃ c, env.cells.lookup x = some c ∧ h.IsCell c (some u))

structure Cx.Ok (X : Cx) : Prop where
  mod : Mod X.K X.mg X.base
  kind : X.env.scope.kind = .function
  glob : X.env.globals = mainGlobals
  blt : X.env.builtins = builtinsNs
  above : X.s₀.heap.objs.size ≤ X.env.locals
  inj : ∀ x y c, X.env.cells.lookup x = some c → X.env.cells.lookup y = some c → x = y
  has : ∀ x, (X.env.kindOf x = some .cell ∨ X.env.kindOf x = some .free) → ∃ c, X.env.cells.lookup x = some c
  cab : ∀ x c, X.fn x = true → X.env.cells.lookup x = some c → X.s₀.heap.objs.size ≤ c
  hd : X.calm = true → X.A.handled = none
  frames : X.A.frames = some X.stack
  stk : X.stack = X.outer ∨ (X.stack = X.env :: X.outer ∧ X.env.frame = some X.env.locals)
  exf : ∀ b ∈ X.ex, b ≠ X.env.locals ∧ ∀ x c, X.env.cells.lookup x = some c → c ≠ b
  bs : ∀ b o, X.base.get? b = some o → X.s₀.heap.get? b = some o ∧ X.H₀ b = none
  bsz : X.base.objs.size ≤ X.s₀.heap.objs.size
  noex : ∀ b o, X.base.get? b = some o → b ∉ X.ex
  exfs : ∀ b ∈ X.ex, b ∉ X.fs
  funs : X.s₀.heap.FunFrames X.base X.outer
  frf : ∀ b ∈ X.fs, X.H₀ b = none

structure Inv (X : Cx) (pins : List (Addr × Obj)) (σ : List (Option V)) (H : Hp) (s : Shared) : Prop where
  ok : X.Ok
  os : s.os = X.s₀.os
  bare : AllBare s.gens
  base : Un X.fs X.ex X.H₀ H X.s₀.heap s.heap
  loc : ∃ m, s.heap.Ns X.env.locals m ∧ ∀ (i : Nat) (x : Str) (v : V), X.N[i]? = some x → σ[i]? = some (some v) → Vis X.env.scope x → ∃ u, RelV v u ∧ Look X.env s.heap m x u
  cell : ∀ x c, X.env.cells.lookup x = some c → ∃ v, s.heap.IsCell c v
  free : H X.env.locals = none
  freeC : ∀ x c, X.env.cells.lookup x = some c → H c = none
  pin : ∀ p ∈ X.pn ++ pins, s.heap.get? p.1 = some p.2 ∧ H p.1 = none ∧ p.1 ≠ X.env.locals ∧ p.1 ∉ X.fs ∧ ∀ v, p.2.data ≠ .cell v
  hok : HOk X.prog X.w H s.heap
  len : σ.length = X.N.length

section
variable {X : Cx} {pins : List (Addr × Obj)} {σ : List (Option V)} {H H' : Hp} {s : Shared} {h' : Heap}

theorem Cx.Ok.nofr (ok : X.Ok) {b : Addr} {o : Obj} (e : X.base.get? b = some o) : b ∉ X.fs := fun hb => by
  have := (ok.funs.mem hb).1
  rw [e] at this; cases this
theorem Inv.bs (I : Inv X pins σ H s) : ∀ b o, X.base.get? b = some o → s.heap.get? b = some o ∧ H b = none := fun b o e =>
  ⟨I.base.keep b o (I.ok.bs b o e).1 (I.ok.bs b o e).2 (I.ok.nofr e) (I.ok.noex b o e), I.base.free b o (I.ok.bs b o e).1 (I.ok.bs b o e).2 (I.ok.noex b o e)⟩
theorem Inv.bk (I : Inv X pins σ H s) : ∀ b o, X.base.get? b = some o → s.heap.get? b = some o := fun b o e => (I.bs b o e).1
theorem Inv.mod (I : Inv X pins σ H s) : Mod X.K X.mg X.base := I.ok.mod
theorem Inv.kIn (I : Inv X pins σ H s) : X.K.In s.heap := I.ok.mod.kin.keeps I.bk
theorem Inv.lt (I : Inv X pins σ H s) : X.env.locals < s.heap.objs.size := let ⟨_, hn, _⟩ := I.loc; hn.lt
theorem Inv.sz (I : Inv X pins σ H s) : X.s₀.heap.objs.size ≤ s.heap.objs.size := Nat.le_trans I.ok.above (Nat.le_of_lt I.lt)
theorem Inv.nofs (I : Inv X pins σ H s) {a : Addr} (h : s.heap.objs.size ≤ a) : a ∉ X.fs := fun hb => by
  obtain ⟨_, o, ho, _⟩ := I.ok.funs.mem hb
  exact absurd (Nat.lt_of_lt_of_le (Heap.lt_size ho) (Nat.le_trans I.sz h)) (Nat.lt_irrefl _)
theorem Inv.cne (I : Inv X pins σ H s) : ∀ x c, X.env.cells.lookup x = some c → c ≠ X.env.locals := fun x c e z => by
  obtain ⟨v, o, ho, hd⟩ := I.cell x c e
  obtain ⟨m, ⟨o', es, ep, ho', hd', _⟩, _⟩ := I.loc
  rw [z, ho'] at ho; cases ho; rw [hd'] at hd; cases hd
theorem Inv.funs (I : Inv X pins σ H s) : s.heap.FunFrames X.base X.outer := by
  have all : ∀ (l : List Env), (∀ b ∈ frs l, b ∈ X.fs) → X.s₀.heap.FunFrames X.base l → s.heap.FunFrames X.base l := by
    intro l
    induction l with
    | nil => intro _ _; trivial
    | cons env r ih =>
      intro hs hl
      obtain ⟨hk, ⟨L, o, hf, hn, ho, hd⟩, hr⟩ := hl
      have hL : L ∈ X.fs := hs L (by unfold frs; rw [List.filterMap_cons, hf]; exact List.mem_cons_self)
      obtain ⟨sl, e⟩ := I.base.slot L o ho (I.ok.frf L hL) hL fun z => I.ok.exfs L z hL
      exact ⟨hk, ⟨L, _, hf, hn, e, hd⟩, ih (fun b hb => hs b (by unfold frs; rw [List.filterMap_cons, hf]; exact List.mem_cons_of_mem _ hb)) hr⟩
  exact all X.outer (fun _ hb => hb) I.ok.funs

theorem Inv.stack (I : Inv X pins σ H s) : s.heap.FunFrames X.base X.stack := by
  rcases I.ok.stk with e | ⟨e, hf⟩
  · rw [e]; exact I.funs
  · rw [e]
    obtain ⟨m, hn, _⟩ := I.loc
    refine .cons (by rw [I.ok.kind]; decide) hf hn ?_ I.funs
    exact Heap.get?_none_of_le (Nat.le_trans I.ok.bsz I.ok.above)
theorem Inv.stkSub (I : Inv X pins σ H s) : ∀ b ∈ frs X.stack, b ∈ X.env.locals :: X.fs := fun b hb => by
  rcases I.ok.stk with e | ⟨e, hf⟩
  · rw [e] at hb; exact List.mem_cons_of_mem _ hb
  · rw [e] at hb
    unfold frs at hb
    rw [List.filterMap_cons, hf] at hb
    exact hb
theorem Inv.stkFree (I : Inv X pins σ H s) : ∀ b ∈ frs X.stack, H b = none := fun b hb => by
  rcases List.mem_cons.mp (I.stkSub b hb) with e | hb
  · rw [e]; exact I.free
  · obtain ⟨_, o, ho, _⟩ := I.ok.funs.mem hb
    exact I.base.free b o ho (I.ok.frf b hb) fun z => I.ok.exfs b z hb

theorem Inv.step {g' : Array GenState} {t' : Nat} {d' : Drawn} {ch : List Addr} (I : Inv X pins σ H s)
    (hch : ∀ b ∈ ch, (b ∈ X.ex ∨ X.s₀.heap.objs.size ≤ b) ∧ b ≠ X.env.locals ∧ (∀ x c, X.env.cells.lookup x = some c → c ≠ b) ∧ ∀ p ∈ X.pn ++ pins, p.1 ≠ b)
    (keep : ∀ b o, b ≠ X.env.locals → b ∉ X.fs → b ∉ ch → s.heap.get? b = some o → H b = none → h'.get? b = some o)
    (slot : ∀ b o, b ≠ X.env.locals → b ∈ X.fs → b ∉ ch → s.heap.get? b = some o → H b = none → ∃ sl, h'.get? b = some { o with slots := sl }) (free : ∀ b o, b ∉ ch → s.heap.get? b = some o → H b = none → H' b = none)
    (there : ∀ b o, b ∉ ch → s.heap.get? b = some o → ∃ o', h'.get? b = some o')
    (tups : ∀ b xs, H b = some (.tup xs) → H' b = some (.tup xs)) (frzs : ∀ b o u, H b = some (.frz o u) → H' b = some (.frz o u)) (tbls : ∀ b ps, H b = some (.tbl ps) → ∃ more, H' b = some (.tbl (ps ++ more)))
    (ns : ∀ m, s.heap.Ns X.env.locals m → h'.Ns X.env.locals m) (hok : HOk X.prog X.w H' h') (hg : AllBare g') :
    Inv X pins σ H' { s with heap := h', gens := g', drawn := d', toks := t' } := by
  have neL : ∀ b o, X.s₀.heap.get? b = some o → b ≠ X.env.locals := fun b o e => Nat.ne_of_lt (Nat.lt_of_lt_of_le (Heap.lt_size e) I.ok.above)
  have neC : ∀ b o, X.s₀.heap.get? b = some o → b ∉ X.ex → b ∉ ch := fun b o e hx hb => by
    rcases (hch b hb).1 with z | z
    · exact hx z
    · exact absurd (Nat.lt_of_lt_of_le (Heap.lt_size e) z) (Nat.lt_irrefl _)
  have cellK : ∀ x c, X.env.cells.lookup x = some c → ∀ v, s.heap.IsCell c v → h'.IsCell c v := fun x c e v ⟨o, ho, hd⟩ => by
    have nch : c ∉ ch := fun z => (hch c z).2.2.1 x c e rfl
    by_cases hc : c ∈ X.fs
    · obtain ⟨sl, q⟩ := slot c o (I.cne x c e) hc nch ho (I.freeC x c e)
      exact ⟨_, q, hd⟩
    · exact ⟨o, keep c o (I.cne x c e) hc nch ho (I.freeC x c e), hd⟩
  refine ⟨I.ok, I.os, hg, ⟨fun b o e n hb hx => ?_, fun b o e n hb hx => ?_, fun b o e n hx => ?_, fun b o e hx => ?_, fun b xs e => tups b xs (I.base.tups b xs e), fun b o xs e => frzs b o xs (I.base.frzs b o xs e), fun b ps e => ?_⟩, ?_, fun x c e => ?_, ?_, fun x c e => ?_, fun p hp => ?_, hok, I.len⟩
  · exact keep b o (neL b o e) hb (neC b o e hx) (I.base.keep b o e n hb hx) (I.base.free b o e n hx)
  · obtain ⟨sl, e1⟩ := I.base.slot b o e n hb hx
    obtain ⟨sl', e2⟩ := slot b _ (neL b o e) hb (neC b o e hx) e1 (I.base.free b o e n hx)
    exact ⟨sl', e2⟩
  · obtain ⟨o', e1⟩ := I.base.there b o e hx
    exact free b o' (neC b o e hx) e1 (I.base.free b o e n hx)
  · obtain ⟨o', e1⟩ := I.base.there b o e hx
    exact there b o' (neC b o e hx) e1
  · obtain ⟨m1, e1⟩ := I.base.tbls b ps e
    obtain ⟨m2, e2⟩ := tbls b _ e1
    exact ⟨m1 ++ m2, by rw [e2, Array.append_assoc]⟩
  · obtain ⟨m, hn, hl⟩ := I.loc
    refine ⟨m, ns m hn, fun i x v e1 e2 e3 => ?_⟩
    obtain ⟨u, r, l⟩ := hl i x v e1 e2 e3
    refine ⟨u, r, ?_⟩
    rcases l with l | ⟨k, c, e, z⟩
    · exact .inl l
    · exact .inr ⟨k, c, e, cellK x c e _ z⟩
  · obtain ⟨v, z⟩ := I.cell x c e
    exact ⟨v, cellK x c e v z⟩
  · obtain ⟨m, ⟨o, _, _, ho, _⟩, _⟩ := I.loc
    exact free _ o (fun z => (hch _ z).2.1 rfl) ho I.free
  · obtain ⟨v, o, ho, hd⟩ := I.cell x c e
    exact free c o (fun z => (hch c z).2.2.1 x c e rfl) ho (I.freeC x c e)
  · obtain ⟨e, n, ne, nf, d⟩ := I.pin p hp
    have nch : p.1 ∉ ch := fun z => (hch p.1 z).2.2.2 p hp rfl
    exact ⟨keep p.1 p.2 ne nf nch e n, free p.1 p.2 nch e n, ne, nf, d⟩
theorem Inv.un {t' : Nat} (I : Inv X pins σ H s) (u : Un X.fs [] H H' s.heap h') (hok : HOk X.prog X.w H' h') : Inv X pins σ H' { s with heap := h', toks := t' } := by
  obtain ⟨m, ⟨o, es, ep, ho, r⟩, _⟩ := id I.loc
  obtain ⟨sl, hL⟩ := u.any ho I.free (by simp)
  exact I.step (g' := s.gens) (d' := s.drawn) (ch := []) (fun _ z => nomatch z) (fun b o _ hb _ e n => u.keep b o e n hb (by simp)) (fun b o _ hb _ e n => u.slot b o e n hb (by simp)) (fun b o _ e n => u.free b o e n (by simp)) (fun b o _ e => u.there b o e (by simp)) u.tups u.frzs u.tbls (fun m' hm => by
    obtain ⟨o', es', ep', ho', r'⟩ := hm
    rw [ho] at ho'; cases ho'
    exact ⟨_, es', ep', hL, r'⟩) hok I.bare
theorem Inv.call {g' : Array GenState} {t' : Nat} {d' : Drawn} {ch : List Addr} (I : Inv X pins σ H s) (u : Un (frs X.stack) ch H H' s.heap h') (hok : HOk X.prog X.w H' h') (hg : AllBare g')
    (hch : ∀ b ∈ ch, (b ∈ X.ex ∨ X.s₀.heap.objs.size ≤ b) ∧ b ≠ X.env.locals ∧ (∀ x c, X.env.cells.lookup x = some c → c ≠ b) ∧ ∀ p ∈ X.pn ++ pins, p.1 ≠ b) :
    Inv X pins σ H' { s with heap := h', gens := g', drawn := d', toks := t' } := by
  obtain ⟨m, ⟨o, es, ep, ho, r⟩, _⟩ := id I.loc
  obtain ⟨sl, hL⟩ := u.any ho I.free fun z => (hch _ z).2.1 rfl
  exact I.step (ch := ch) hch (fun b o hL hb hc e n => u.keep b o e n (fun z => (List.mem_cons.mp (I.stkSub b z)).elim hL hb) hc) (fun b o _ _ hc e n => u.any e n hc) (fun b o hc e n => u.free b o e n hc) (fun b o hc e => u.there b o e hc) u.tups u.frzs u.tbls (fun m' hm => by
    obtain ⟨o', es', ep', ho', r'⟩ := hm
    rw [ho] at ho'; cases ho'
    exact ⟨_, es', ep', hL, r'⟩) hok hg
theorem Inv.turned {t' : Nat} {it : Addr} (I : Inv X pins σ H s) (k : ∀ b o, b ≠ it → s.heap.get? b = some o → h'.get? b = some o) (hn : H it = none) (hL : it ≠ X.env.locals)
    (h1 : it ∈ X.ex ∨ X.s₀.heap.objs.size ≤ it) (h2 : ∀ x c, X.env.cells.lookup x = some c → c ≠ it) (h3 : ∀ p ∈ X.pn ++ pins, p.1 ≠ it) : Inv X pins σ H { s with heap := h', toks := t' } := by
  have nit : ∀ b u, H b = some u → b ≠ it := fun b u e z => by rw [z, hn] at e; cases e
  refine I.step (g' := s.gens) (d' := s.drawn) (ch := [it]) (fun b hb => ?_) (fun b o _ _ hc e _ => k b o (fun z => hc (by simp [z])) e) (fun b o _ _ hc e _ => ⟨o.slots, k b o (fun z => hc (by simp [z])) e⟩) (fun _ _ _ _ n => n)
    (fun b o hc e => ⟨o, k b o (fun z => hc (by simp [z])) e⟩) (fun _ _ e => e) (fun _ _ _ e => e) (fun b ps e => ⟨#[], by rw [e]; simp⟩) (fun m hm => ?_) (fun b u e => ?_) I.bare
  · have e : b = it := by simpa using hb
    subst e
    exact ⟨h1, hL, h2, h3⟩
  · obtain ⟨o, es, ep, ho, r⟩ := hm
    exact ⟨o, es, ep, k _ o (Ne.symm hL) ho, r⟩
  · refine (I.hok b u e).stay (fun c v hc q => k c v ?_ q) (fun _ q => q) fun _ _ q => q
    rcases hc with z | z
    · rw [z]; exact nit b u e
    · exact nit c _ z
theorem Inv.tok (I : Inv X pins σ H s) (t : Nat) : Inv X pins σ H { s with toks := t } := I.un (h' := s.heap) (t' := t) Un.refl I.hok
theorem Inv.kept {t' : Nat} (I : Inv X pins σ H s) (k : ∀ b u, s.heap.get? b = some u → h'.get? b = some u) : Inv X pins σ H { s with heap := h', toks := t' } := I.un (Un.kept k) (I.hok.kept k)
theorem Inv.laid {a : Addr} {o : HO} {t' : Nat} (I : Inv X pins σ H s) (k : ∀ b u, s.heap.get? b = some u → h'.get? b = some u) (hp : s.heap.objs.size ≤ a) (new : ObjOk X.prog X.w (upd H a o) h' a o) :
    Inv X pins σ (upd H a o) { s with heap := h', toks := t' } := I.un (Un.laid k hp (I.hok.fresh hp)) (I.hok.laid k hp new)
theorem Inv.write {x e : Addr} {o : HO} {t' : Nat} (I : Inv X pins σ H s) (mu : Mut (H x)) (he : e = x ∨ H e = some (.own x)) (k : ∀ b u, b ≠ e → s.heap.get? b = some u → h'.get? b = some u) (heo : ∃ u, h'.get? e = some u)
    (new : ObjOk X.prog X.w (upd H x o) h' x o) : Inv X pins σ (upd H x o) { s with heap := h', toks := t' } := I.un (Un.write mu he k heo) (I.hok.write mu he k heo new)
theorem Inv.pins_of {pins' : List (Addr × Obj)} (I : Inv X pins σ H s) (h : ∀ p ∈ pins', s.heap.get? p.1 = some p.2 ∧ H p.1 = none ∧ p.1 ≠ X.env.locals ∧ p.1 ∉ X.fs ∧ ∀ v, p.2.data ≠ .cell v) : Inv X pins' σ H s :=
  ⟨I.ok, I.os, I.bare, I.base, I.loc, I.cell, I.free, I.freeC, fun p hp => (List.mem_append.mp hp).elim (fun z => I.pin p (List.mem_append_left _ z)) (h p), I.hok, I.len⟩

theorem nodup_ix {N : List Str} (hN : N.Nodup) {i j : Nat} {x : Str} (a : N[i]? = some x) (b : N[j]? = some x) : i = j := by
  obtain ⟨h1, e1⟩ := List.getElem?_eq_some_iff.mp a
  obtain ⟨h2, e2⟩ := List.getElem?_eq_some_iff.mp b
  exact (List.getElem_inj hN).mp (e1.trans e2.symm)

theorem store_ok2 {M : Model} {A : Around} {E : Value → Shared → Prop} {i : Nat} {x : Str} {v : V} {u : Value} {Q : Unit → Shared → Prop} (I : Inv X pins σ H s) (hN : X.N.Nodup) (hi : X.N[i]? = some x) (hx : Loc X.env.scope x) (r : RelV v u)
    (h : ∀ s', Inv X pins (σ.set i (some v)) H s' → (∃ a, Heap.SameBut a s.heap s'.heap ∧ (a = X.env.locals ∨ X.env.cells.lookup x = some a)) → Q () s') (hf : X.fn x = true ∨ X.env.scope.names.lookup x = some .local := by first | exact .inl rfl | exact .inr rfl | assumption) : wpAny M A (storeName X.env x u) Q E s := by
  obtain ⟨m, hn, hl⟩ := id I.loc
  have hcls : (X.env.scope.kind == .class || (X.env.scope.kind == .module && X.env.locals != X.env.globals)) = false := by rw [I.ok.kind]; rfl
  have hiσ : i < σ.length := by rw [I.len]; exact (List.getElem?_eq_some_iff.mp hi).1
  have cne := I.cne
  have tracked : ∀ {a : Addr} {h' : Heap}, (∃ o, s.heap.get? a = some o ∧ H a = none) → Heap.SameBut a s.heap h' → HOk X.prog X.w H h' := fun {a h'} ha hs b ob e => by
    obtain ⟨_, _, hfree⟩ := ha
    refine (I.hok b ob e).stay (fun c w' hc q => (hs.2 c ?_).trans q) (fun _ q => q) fun _ _ q => q
    rintro rfl
    rcases hc with rfl | hc
    · rw [hfree] at e; cases e
    · rw [hfree] at hc; cases hc
  rcases hx with hk | hk
  · refine wpAny_storeName_local hk hn (fun h' hn' hs => ?_) hcls
    obtain ⟨oL, _, _, hoL, _⟩ := id hn
    refine h _ ⟨I.ok, I.os, I.bare, ⟨fun b o e n hb hx => ?_, fun b o e n hb hx => ?_, I.base.free, fun b o e hx => ?_, I.base.tups, I.base.frzs, I.base.tbls⟩, ⟨_, hn', fun j y v' e1 e2 e3 => ?_⟩, fun y c e => ?_, I.free, I.freeC, fun p hp => ?_, tracked ⟨oL, hoL, I.free⟩ hs, by simpa using I.len⟩ ⟨_, hs, .inl rfl⟩
    · exact (hs.2 b (Nat.ne_of_lt (Nat.lt_of_lt_of_le (Heap.lt_size e) I.ok.above))).trans (I.base.keep b o e n hb hx)
    · obtain ⟨sl, e1⟩ := I.base.slot b o e n hb hx
      exact ⟨sl, (hs.2 b (Nat.ne_of_lt (Nat.lt_of_lt_of_le (Heap.lt_size e) I.ok.above))).trans e1⟩
    · obtain ⟨o', e1⟩ := I.base.there b o e hx
      exact ⟨o', (hs.2 b (Nat.ne_of_lt (Nat.lt_of_lt_of_le (Heap.lt_size e) I.ok.above))).trans e1⟩
    · by_cases hj : j = i
      · subst hj
        rw [hi] at e1; cases e1
        rw [List.getElem?_set_self hiσ] at e2
        cases e2
        exact ⟨u, r, .inl ⟨hk, by simp⟩⟩
      · rw [List.getElem?_set_ne (Ne.symm hj)] at e2
        obtain ⟨u', r', q⟩ := hl j y v' e1 e2 e3
        refine ⟨u', r', ?_⟩
        rcases q with ⟨k, e⟩ | ⟨k, c, e, z⟩
        · refine .inl ⟨k, ?_⟩
          have : y ≠ x := fun e => hj (nodup_ix hN e1 (e ▸ hi))
          simp [this, e]
        · exact .inr ⟨k, c, e, z.sameBut hs (cne y c e)⟩
    · obtain ⟨w', z⟩ := I.cell y c e
      exact ⟨w', z.sameBut hs (cne y c e)⟩
    · obtain ⟨e, n, ne, nf, d⟩ := I.pin p hp
      exact ⟨(hs.2 p.1 ne).trans e, n, ne, nf, d⟩
  · have hfn : X.fn x = true := by
      rcases hf with z | z
      · exact z
      · rw [z] at hk; cases hk
    obtain ⟨c, hc⟩ := I.ok.has x (.inl hk)
    obtain ⟨w', z⟩ := I.cell x c hc
    refine wpAny_storeName_cell I.ok.kind hk hc z (fun h' hc' hs => ?_)
    obtain ⟨oc, hoc, hocd⟩ := id z
    refine h { s with heap := h' } ⟨I.ok, I.os, I.bare, ⟨fun b o e n hb hx => ?_, fun b o e n hb hx => ?_, I.base.free, fun b o e hx => ?_, I.base.tups, I.base.frzs, I.base.tbls⟩, ⟨m, hn.sameBut hs (Ne.symm (cne x c hc)), fun j y v' e1 e2 e3 => ?_⟩, fun y c' e => ?_, I.free, I.freeC, fun p hp => ?_, tracked ⟨oc, hoc, I.freeC x c hc⟩ hs, by simpa using I.len⟩ ⟨c, hs, .inr hc⟩
    · exact (hs.2 b (Nat.ne_of_lt (Nat.lt_of_lt_of_le (Heap.lt_size e) (I.ok.cab x c hfn hc)))).trans (I.base.keep b o e n hb hx)
    · obtain ⟨sl, e1⟩ := I.base.slot b o e n hb hx
      exact ⟨sl, (hs.2 b (Nat.ne_of_lt (Nat.lt_of_lt_of_le (Heap.lt_size e) (I.ok.cab x c hfn hc)))).trans e1⟩
    · obtain ⟨o', e1⟩ := I.base.there b o e hx
      exact ⟨o', (hs.2 b (Nat.ne_of_lt (Nat.lt_of_lt_of_le (Heap.lt_size e) (I.ok.cab x c hfn hc)))).trans e1⟩
    · by_cases hj : j = i
      · subst hj
        rw [hi] at e1; cases e1
        rw [List.getElem?_set_self hiσ] at e2
        cases e2
        exact ⟨u, r, .inr ⟨.inl hk, c, hc, hc'⟩⟩
      · rw [List.getElem?_set_ne (Ne.symm hj)] at e2
        obtain ⟨u', r', q⟩ := hl j y v' e1 e2 e3
        refine ⟨u', r', ?_⟩
        rcases q with q | ⟨k, c', e, z'⟩
        · exact .inl q
        · refine .inr ⟨k, c', e, z'.sameBut hs ?_⟩
          rintro rfl
          exact hj (nodup_ix hN e1 (I.ok.inj _ _ _ e hc ▸ hi))
    · by_cases hcc : c' = c
      · subst hcc; exact ⟨_, hc'⟩
      · obtain ⟨w2, z2⟩ := I.cell y c' e
        exact ⟨w2, z2.sameBut hs hcc⟩
    · obtain ⟨e, n, ne, nf, d⟩ := I.pin p hp
      refine ⟨(hs.2 p.1 ?_).trans e, n, ne, nf, d⟩
      intro q
      rw [q, hoc] at e
      have q' : oc = p.2 := Option.some.inj e
      exact d w' (by rw [← q']; exact hocd)
theorem store_ok {M : Model} {A : Around} {E : Value → Shared → Prop} {i : Nat} {x : Str} {v : V} {u : Value} {Q : Unit → Shared → Prop} (I : Inv X pins σ H s) (hN : X.N.Nodup) (hi : X.N[i]? = some x) (hx : Loc X.env.scope x) (r : RelV v u)
    (h : ∀ s', Inv X pins (σ.set i (some v)) H s' → Q () s') (hf : X.fn x = true ∨ X.env.scope.names.lookup x = some .local := by first | exact .inl rfl | exact .inr rfl | assumption) : wpAny M A (storeName X.env x u) Q E s :=
  store_ok2 I hN hi hx r (fun s' I' _ => h s' I') hf
theorem Inv.call' {s' : Shared} {ch : List Addr} (I : Inv X pins σ H s) (ho : s'.os = s.os) (u : Un (frs X.stack) ch H H' s.heap s'.heap) (hok : HOk X.prog X.w H' s'.heap) (hg : AllBare s'.gens)
    (hch : ∀ b ∈ ch, (b ∈ X.ex ∨ X.s₀.heap.objs.size ≤ b) ∧ b ≠ X.env.locals ∧ (∀ x c, X.env.cells.lookup x = some c → c ≠ b) ∧ ∀ p ∈ X.pn ++ pins, p.1 ≠ b) : Inv X pins σ H' s' := by
  obtain ⟨h', g', d', t', o'⟩ := s'
  have e : o' = s.os := ho
  subst e
  exact I.call (g' := g') (t' := t') (d' := d') u hok hg hch
end

/-! ### the judgements -/
abbrev XK := Value → Option Addr → Hp → Prop
abbrev St := List (Option V)
abbrev VK := V → Hp → Prop
abbrev TE := St → Hp → VK → Prop
abbrev TT := St → Hp → (Bool → Hp → Prop) → Prop
abbrev TA := St → Hp → (List V → Hp → Prop) → Prop
structure Ends where
  nx : St → Hp → Prop
  rt : VK
  bk : St → Hp → Prop := fun _ _ => False
  ct : St → Hp → Prop := fun _ _ => False
abbrev TS := Ends → St → Hp → Prop

def EP (X : Cx) (pins : List (Addr × Obj)) (σ : St) (Q : VK) (u : Value) (s' : Shared) : Prop := ∃ v H', Inv X pins σ H' s' ∧ RelV v u ∧ Q v H'
def TP (X : Cx) (pins : List (Addr × Obj)) (σ : St) (Q : Bool → Hp → Prop) (b : Bool) (s' : Shared) : Prop := ∃ H', Inv X pins σ H' s' ∧ Q b H'
def AP (X : Cx) (pins : List (Addr × Obj)) (σ : St) (Q : List V → Hp → Prop) (us : List Value) (s' : Shared) : Prop := ∃ vs H', Inv X pins σ H' s' ∧ Vals vs us ∧ Q vs H'
def SP (X : Cx) (pins : List (Addr × Obj)) (D : Ends) (f : Flow) (s' : Shared) : Prop :=
  match f with
  | .next => ∃ σ' H', Inv X pins σ' H' s' ∧ D.nx σ' H'
  | .brk => ∃ σ' H', Inv X pins σ' H' s' ∧ D.bk σ' H'
  | .cont => ∃ σ' H', Inv X pins σ' H' s' ∧ D.ct σ' H'
  | .ret u => ∃ v σ' H', Inv X pins σ' H' s' ∧ RelV v u ∧ D.rt v H'

def PE (X : Cx) (e : Expr) (t : TE) : Prop :=
  ∀ (pins : List (Addr × Obj)) (s : Shared) (σ : St) (H : Hp) (Q : VK), Inv X pins σ H s → t σ H Q → wpAny (model X.prog X.w) X.A (eval e X.env) (EP X pins σ Q) X.xe s
def PT (X : Cx) (e : Expr) (t : TT) : Prop :=
  ∀ (pins : List (Addr × Obj)) (s : Shared) (σ : St) (H : Hp) (Q : Bool → Hp → Prop), Inv X pins σ H s → t σ H Q → wpAny (model X.prog X.w) X.A (isTrue e X.env (eval e X.env)) (TP X pins σ Q) X.xe s
def PW (X : Cx) (e : Expr) (t : TT) : Prop :=
  ∀ (whole : Sem Value) (pins : List (Addr × Obj)) (s : Shared) (σ : St) (H : Hp) (Q : Bool → Hp → Prop), Inv X pins σ H s → t σ H Q → wpAny (model X.prog X.w) X.A (isTrue e X.env whole) (TP X pins σ Q) X.xe s
theorem PW.pt {X : Cx} {e : Expr} {t : TT} (h : PW X e t) : PT X e t := h _
def PA (X : Cx) (es : List Expr) (t : TA) : Prop :=
  ∀ (pos : Pos) (pins : List (Addr × Obj)) (s : Shared) (σ : St) (H : Hp) (Q : List V → Hp → Prop), Inv X pins σ H s → t σ H Q → wpAny (model X.prog X.w) X.A (spliced (backTo pos (starEach es X.env))) (AP X pins σ Q) X.xe s
def PS (X : Cx) (st : Stmt) (t : TS) : Prop :=
  ∀ (pins : List (Addr × Obj)) (s : Shared) (σ : St) (H : Hp) (D : Ends), Inv X pins σ H s → t D σ H → wpAny (model X.prog X.w) X.A (exec st X.env) (SP X pins D) X.xe s
def PSs (X : Cx) (st : List Stmt) (t : TS) : Prop :=
  ∀ (pins : List (Addr × Obj)) (s : Shared) (σ : St) (H : Hp) (D : Ends), Inv X pins σ H s → t D σ H → wpAny (model X.prog X.w) X.A (execs st X.env) (SP X pins D) X.xe s
theorem thn {α : Type} {t : Sem α} {Q Q' : α → Shared → Prop} {M : Model} {A : Around} {E : Value → Shared → Prop} {s : Shared} (h : wpAny M A t Q E s) (hQ : ∀ a s, Q a s → Q' a s) : wpAny M A t Q' E s := wpAny_mono h hQ fun _ _ x => x
end L2

namespace L2
open PySem PySem.Spec PyProof.Rows
section
variable {X : Cx}

/-! ### names and constants -/
def tVar (i : Nat) : TE := fun σ H Q => ∃ v, σ[i]? = some (some v) ∧ Q v H
def tC (v : V) : TE := fun _ H Q => Q v H
theorem pe_var {i : Nat} {x : Str} {pos : Pos} (hN : X.N[i]? = some x) (hv : Vis X.env.scope x) (hd : (x == ("__debug__" : Str)) = false := by decide) (hcd : (x == ("__classdict__" : Str)) = false := by decide) : PE X (.Name x pos) (tVar i) := by
  intro pins s σ H Q I h
  obtain ⟨v, e, h⟩ := h
  obtain ⟨m, hn, hl⟩ := I.loc
  obtain ⟨u, r, l⟩ := hl i x v hN e hv
  have fin : EP X pins σ Q u s := ⟨v, H, I, r, h⟩
  rcases l with ⟨hk, hm⟩ | ⟨hk, c, hc, hcell⟩
  · exact wpAny_Name (wpAny_loadName_local I.ok.kind hk hn hm fin) hd
  · rcases hk with hk | hk
    · exact wpAny_Name (wpAny_loadName_cell I.ok.kind hk hc hcell fin) hd
    · exact wpAny_Name (wpAny_loadName_free I.ok.kind hk hc hcell fin hcd) hd
theorem pe_int {i j pos} : PE X (.Constant (.int i) j pos) (tC (.int i)) := fun _ _ _ H _ I h => wpAny_Constant_int ⟨.int i, H, I.tok _, ⟨_, rfl⟩, h⟩
theorem pe_bl {b j pos} : PE X (.Constant (.bool b) j pos) (tC (.bl b)) := fun _ _ _ H _ I h => Constant_bool ⟨.bl b, H, I, rfl, h⟩
theorem pe_non {j pos} : PE X (.Constant .none j pos) (tC .non) := fun _ _ _ H _ I h => Constant_none ⟨.non, H, I, rfl, h⟩
theorem pe_str {x j pos} : PE X (.Constant (.str x) j pos) (tC (.str x)) := fun _ _ _ H _ I h => Calls.Constant_str ⟨.str x, H, I.tok _, ⟨_, rfl⟩, h⟩

def Gl (X : Cx) (x : Str) : Prop := X.env.kindOf x = some .globalImplicit
theorem ld_glob {E : Value → Shared → Prop} {pins : List (Addr × Obj)} {s : Shared} {σ : St} {H : Hp} {x : Str} {u : Value} {pos : Pos} {Q : Value → Shared → Prop} (I : Inv X pins σ H s) (hg : Gl X x) (hm : X.mg x = some u) (h : Q u s)
    (hd : (x == ("__debug__" : Str)) = false := by decide) : wpAny (model X.prog X.w) X.A (eval (.Name x pos) X.env) Q E s :=
  Calls.Name_function_global I.ok.kind hg (Calls.loadGlobal_global (by rw [I.ok.glob]; exact I.mod.glob.keeps I.bk) hm h) hd
theorem ld_blt {E : Value → Shared → Prop} {pins : List (Addr × Obj)} {s : Shared} {σ : St} {H : Hp} {x : Str} {u : Value} {pos : Pos} {Q : Value → Shared → Prop} (I : Inv X pins σ H s) (hg : Gl X x) (hm : X.mg x = none) (hv : bootBuiltins x = some u) (h : Q u s)
    (hn : x ≠ "__name__" := by decide) (hd : (x == ("__debug__" : Str)) = false := by decide) : wpAny (model X.prog X.w) X.A (eval (.Name x pos) X.env) Q E s := by
  obtain ⟨mb, h1, h2⟩ := I.mod.blt
  exact Calls.Name_function_global I.ok.kind hg (Calls.loadGlobal_builtin (by rw [I.ok.glob]; exact I.mod.glob.keeps I.bk) hm (by rw [I.ok.blt]; exact h1.keeps I.bk) ((h2 x hn).trans hv) h) hd
theorem pe_glob {x : Str} {v : V} {u : Value} {pos : Pos} (hg : Gl X x) (hm : X.mg x = some u) (r : RelV v u) (hd : (x == ("__debug__" : Str)) = false := by decide) : PE X (.Name x pos) (tC v) :=
  fun _ _ _ H _ I h => ld_glob I hg hm ⟨v, H, I, r, h⟩ hd
/-! ### arithmetic -/
variable {a b : Expr} {ta tb : TE} {pos : Pos}
/-! ### comparisons -/
def PC (X : Cx) (op : CmpOp) (a b : Expr) (t : TE) : Prop :=
  ∀ (pins : List (Addr × Obj)) (s : Shared) (σ : St) (H : Hp) (Q : VK), Inv X pins σ H s → t σ H Q →
    wpAny (model X.prog X.w) X.A (eval a X.env) (fun v s₁ => wpAny (model X.prog X.w) X.A (eval b X.env) (fun u s₂ => wpAny (model X.prog X.w) X.A (compareOp op v u) (EP X pins σ Q) X.xe s₂) X.xe s₁) X.xe s
def tB (t : TE) : TT := fun σ H Q => t σ H fun x H1 => ∃ c, x = .bl c ∧ Q c H1
theorem pt_val {e : Expr} {t : TE} (h : PE X e t) (he : ∀ whole, isTrue e X.env whole = (do let v ← whole; standAt e.pos; holding [v] (truthy v)) := by intro _; rfl) : PT X e (tB t) := by
  intro pins s σ H Q I hw
  refine isTrue_plain (thn (h pins s σ H _ I hw) fun v s1 ⟨x, H1, I1, r1, q1⟩ => ?_) (he _)
  obtain ⟨d, rfl, q⟩ := q1
  cases r1
  exact wpAny_truthy_bool ⟨H1, I1, q⟩

/-! ### and, or, not -/
variable {tA tB' : TT} {rest : List Expr}
def tAnd (t u : TT) : TT := fun σ H Q => t σ H fun c H1 => if c = true then u σ H1 Q else Q false H1
def tOr (t u : TT) : TT := fun σ H Q => t σ H fun c H1 => if c = true then Q true H1 else u σ H1 Q
def tNot (t : TT) : TT := fun σ H Q => t σ H fun c H1 => Q (!c) H1
theorem pw_and1 (ha : PT X a tA) : PW X (.BoolOp .And [a] pos) tA := by
  intro wh pins s σ H Q I h
  refine isTrue_and (thn (ha pins s σ H Q I h) fun c s1 e => ?_)
  cases c with
  | true => exact isTrue_and_nil e
  | false => exact e
theorem pw_or1 (ha : PT X a tA) : PW X (.BoolOp .Or [a] pos) tA := by
  intro wh pins s σ H Q I h
  refine isTrue_or (thn (ha pins s σ H Q I h) fun c s1 e => ?_)
  cases c with
  | false => exact isTrue_or_nil e
  | true => exact e
theorem pw_and (ha : PT X a tA) (hb : PW X (.BoolOp .And (b :: rest) pos) tB') : PW X (.BoolOp .And (a :: b :: rest) pos) (tAnd tA tB') := by
  intro wh pins s σ H Q I h
  refine isTrue_and (thn (ha pins s σ H _ I h) fun c s1 ⟨H1, I1, q1⟩ => ?_)
  cases c with
  | true => exact hb wh pins s1 σ H1 Q I1 q1
  | false => exact ⟨H1, I1, q1⟩
theorem pw_or (ha : PT X a tA) (hb : PW X (.BoolOp .Or (b :: rest) pos) tB') : PW X (.BoolOp .Or (a :: b :: rest) pos) (tOr tA tB') := by
  intro wh pins s σ H Q I h
  refine isTrue_or (thn (ha pins s σ H _ I h) fun c s1 ⟨H1, I1, q1⟩ => ?_)
  cases c with
  | true => exact ⟨H1, I1, q1⟩
  | false => exact hb wh pins s1 σ H1 Q I1 q1
theorem pt_not (ha : PT X a tA) : PT X (.UnaryOp .Not a pos) (tNot tA) := by
  intro pins s σ H Q I h
  exact isTrue_not (ha pins s σ H (fun c H1 => Q (!c) H1) I h)
def tOrV (ta tb : TE) : TE := fun σ H Q => ta σ H fun x H1 => ∃ c, x = .bl c ∧ if c = true then Q (.bl true) H1 else tb σ H1 Q
theorem pe_or (ha : PE X a ta) (hb : PE X (.BoolOp .Or (b :: rest) pos) tb) : PE X (.BoolOp .Or (a :: b :: rest) pos) (tOrV ta tb) := by
  intro pins s σ H Q I h
  refine BoolOp_or (thn (ha pins s σ H _ I h) fun v s1 ⟨x, H1, I1, r1, q1⟩ => ?_)
  obtain ⟨c, rfl, q1⟩ := q1
  cases r1
  refine wpAny_truthy_bool ?_
  cases c with
  | false => exact hb pins s1 σ H1 Q I1 q1
  | true => exact ⟨.bl true, H1, I1, rfl, q1⟩
end
end L2

namespace L2
open PySem PySem.Spec PyProof.Rows

/-! ### a list, a tuple that is read: tracked, frozen, or an object of the module -/
def SqL (K : PySem.W.Frag) (H : Hp) (a : Addr) (xs : List V) : Prop :=
  Rd H a (.lst xs) ∨
    ∃ (o : Obj) (its : Array Value) (n : Nat), K.lookup a = some o ∧ o.cls = .type "list" ∧ o.dict = none ∧ o.data = .seq its n ∧ its.size ≤ sizeLine ∧ Vals xs its.toList
def SqT (K : PySem.W.Frag) (H : Hp) (a : Addr) (xs : List V) : Prop :=
  Rd H a (.tup xs) ∨
    ∃ (o : Obj) (its : Array Value) (n : Nat), K.lookup a = some o ∧ o.cls = .type "tuple" ∧ o.data = .seq its n ∧ its.size ≤ sizeLine ∧ Vals xs its.toList
def absV : Value → Option V
  | .none => some .non
  | .bool b => some (.bl b)
  | .int i _ => some (.int i)
  | .str x _ => some (.str x)
  | .bytes b _ => some (.byt b)
  | .float b _ => some (.flt b)
  | .ref a => some (.ref a)
  | .type n => some (.ty n)
  | _ => none
theorem RelV.abs {x : V} {u : Value} (r : RelV x u) : absV u = some x := by
  cases x with
  | non => cases r; rfl
  | bl _ => cases r; rfl
  | int _ => obtain ⟨t, rfl⟩ := r; rfl
  | str _ => obtain ⟨t, rfl⟩ := r; rfl
  | byt _ => obtain ⟨t, rfl⟩ := r; rfl
  | flt _ => obtain ⟨t, rfl⟩ := r; rfl
  | ref _ => cases r; rfl
  | ty _ => cases r; rfl
theorem RelV.inj {x y : V} {u : Value} (r : RelV x u) (q : RelV y u) : x = y := Option.some.inj (r.abs.symm.trans q.abs)
theorem Vals.inj : ∀ {xs ys : List V} {us : List Value}, Vals xs us → Vals ys us → xs = ys
  | _, _, _, .nil, .nil => rfl
  | _, _, _, .cons r t, .cons r' t' => by rw [r.inj r', Vals.inj t t']
section
variable {X : Cx} {pins : List (Addr × Obj)} {σ : St} {H : Hp} {s : Shared} {a : Addr} {xs ys : List V}
theorem SqL.of {K : PySem.W.Frag} (h : H a = some (.lst xs)) : SqL K H a xs := .inl (.inl h)
theorem SqT.of {K : PySem.W.Frag} (h : H a = some (.tup xs)) : SqT K H a xs := .inl (.inl h)
theorem Inv.list (I : Inv X pins σ H s) (h : SqL X.K H a xs) : ∃ its : List Value, Vals xs its ∧ PlainL s.heap a its.toArray ∧ xs.length ≤ sizeLine := by
  rcases h with h | ⟨o, its, n, hk, hc, hd, hs, hz, r⟩
  · obtain ⟨z, its, n, r, e⟩ := h.ok I.hok
    exact ⟨its, r, ⟨_, n, e, rfl, rfl, rfl⟩, z⟩
  · refine ⟨its.toList, r, ⟨o, n, I.kIn a o hk, hc, hd, by simpa using hs⟩, ?_⟩
    have e := r.length
    simp only [Array.length_toList] at e
    omega
theorem Inv.tuple (I : Inv X pins σ H s) (h : SqT X.K H a xs) : ∃ its : List Value, Vals xs its ∧ IsTup s.heap a its.toArray ∧ xs.length ≤ sizeLine := by
  rcases h with h | ⟨o, its, n, hk, hc, hs, hz, r⟩
  · obtain ⟨z, its, r, p⟩ := h.ok I.hok
    exact ⟨its, r, p, z⟩
  · refine ⟨its.toList, r, ⟨o, I.kIn a o hk, hc, n, by simpa using hs⟩, ?_⟩
    have e := r.length
    simp only [Array.length_toList] at e
    omega
theorem Inv.list_inj (I : Inv X pins σ H s) (h : SqL X.K H a xs) (h' : SqL X.K H a ys) : xs = ys := by
  obtain ⟨its, r, ⟨o, n, e, _, _, d⟩, _⟩ := I.list h
  obtain ⟨its', r', ⟨o', n', e', _, _, d'⟩, _⟩ := I.list h'
  rw [e] at e'; cases e'
  rw [d] at d'
  injection d' with d1 _
  have : its = its' := by simpa using congrArg Array.toList d1
  subst this
  exact r.inj r'
theorem Inv.tuple_inj (I : Inv X pins σ H s) (h : SqT X.K H a xs) (h' : SqT X.K H a ys) : xs = ys := by
  obtain ⟨its, r, ⟨o, e, _, n, d⟩, _⟩ := I.tuple h
  obtain ⟨its', r', ⟨o', e', _, n', d'⟩, _⟩ := I.tuple h'
  rw [e] at e'; cases e'
  rw [d] at d'
  injection d' with d1 _
  have : its = its' := by simpa using congrArg Array.toList d1
  subst this
  exact r.inj r'
end

/-! ### another wish about exceptions -/
abbrev Cx.wish (X : Cx) (E : Value → Shared → Prop) : Cx := { X with xe := E }
abbrev Cx.nox (X : Cx) : Cx := X.wish fun _ _ => False
theorem Cx.Ok.wish {X : Cx} (ok : X.Ok) (E : Value → Shared → Prop) : (X.wish E).Ok :=
  ⟨ok.mod, ok.kind, ok.glob, ok.blt, ok.above, ok.inj, ok.has, ok.cab, ok.hd, ok.frames, ok.stk, ok.exf, ok.bs, ok.bsz, ok.noex, ok.exfs, ok.funs, ok.frf⟩
theorem Cx.Ok.unwish {X : Cx} {E : Value → Shared → Prop} (ok : (X.wish E).Ok) : X.Ok :=
  ⟨ok.mod, ok.kind, ok.glob, ok.blt, ok.above, ok.inj, ok.has, ok.cab, ok.hd, ok.frames, ok.stk, ok.exf, ok.bs, ok.bsz, ok.noex, ok.exfs, ok.funs, ok.frf⟩
section
variable {X : Cx} {pins : List (Addr × Obj)} {σ : St} {H : Hp} {s : Shared} {E : Value → Shared → Prop}
theorem Inv.wish (I : Inv X pins σ H s) (E : Value → Shared → Prop) : Inv (X.wish E) pins σ H s := ⟨I.ok.wish E, I.os, I.bare, I.base, I.loc, I.cell, I.free, I.freeC, I.pin, I.hok, I.len⟩
theorem Inv.unwish (I : Inv (X.wish E) pins σ H s) : Inv X pins σ H s := ⟨I.ok.unwish, I.os, I.bare, I.base, I.loc, I.cell, I.free, I.freeC, I.pin, I.hok, I.len⟩
theorem SP.unwish {D : Ends} {f : Flow} {s' : Shared} (h : SP (X.wish E) pins D f s') : SP X pins D f s' := by
  cases f with
  | next => obtain ⟨σ', H', I, q⟩ := h; exact ⟨σ', H', I.unwish, q⟩
  | brk => obtain ⟨σ', H', I, q⟩ := h; exact ⟨σ', H', I.unwish, q⟩
  | cont => obtain ⟨σ', H', I, q⟩ := h; exact ⟨σ', H', I.unwish, q⟩
  | ret u => obtain ⟨v, σ', H', I, r, q⟩ := h; exact ⟨v, σ', H', I.unwish, r, q⟩
theorem PSs.nox {st : List Stmt} {t : TS} (h : PSs X.nox st t) : PSs X st t := fun pins s σ H D I hw =>
  wpAny_mono (h pins s σ H D (I.wish _) hw) (fun _ _ q => q.unwish) fun _ _ z => False.elim z
end

/-! ### blocks and small statements -/
section
variable {X : Cx} {st : Stmt} {rest : List Stmt} {t u : TS} {e : Expr} {te : TE} {pos : Pos}
def tNext : TS := fun D σ H => D.nx σ H
def tSeq (t u : TS) : TS := fun D σ H => t { D with nx := u D } σ H
theorem pss_nil : PSs X [] tNext := fun _ _ σ H _ I h => wpAny_execs_nil ⟨σ, H, I, h⟩
theorem pss_cons (h1 : PS X st t) (h2 : PSs X rest u) : PSs X (st :: rest) (tSeq t u) := by
  intro pins s σ H D I h
  refine wpAny_execs_cons (thn (h1 pins s σ H { D with nx := u D } I h) fun f s1 q => ?_)
  cases f with
  | next =>
    obtain ⟨σ', H', I', q⟩ := q
    exact h2 pins s1 σ' H' D I' q
  | ret v => exact q
  | brk => exact q
  | cont => exact q
theorem pss_one (h1 : PS X st t) : PSs X [st] t := by
  intro pins s σ H D I h
  refine wpAny_execs_cons (thn (h1 pins s σ H D I h) fun f s1 q => ?_)
  cases f with
  | next => exact wpAny_execs_nil q
  | ret v => exact q
  | brk => exact q
  | cont => exact q
theorem Inv.quiet {pins : List (Addr × Obj)} {σ : St} {H : Hp} {s : Shared} (I : Inv X pins σ H s) : interactive X.env = false := by simp [interactive, I.ok.kind]
def tDrop (te : TE) : TS := fun D σ H => te σ H fun _ H1 => D.nx σ H1
theorem ps_expr (he : PE X e te) (hs : swapsWith e none pos.line X.env = pure false := by rfl) : PS X (.Expr e pos) (tDrop te) := by
  intro pins s σ H D I h
  exact wpAny_Expr_any (thn (he pins s σ H _ I h) fun v s1 ⟨x, H1, I1, r1, q1⟩ => ⟨σ, H1, I1, q1⟩) I.quiet hs
def tRet (te : TE) : TS := fun D σ H => te σ H D.rt
theorem ps_ret (he : PE X e te) : PS X (.Return (some e) pos) (tRet te) := by
  intro pins s σ H D I h
  exact wpAny_Return_some (thn (he pins s σ H _ I h) fun v s1 ⟨x, H1, I1, r1, q1⟩ => ⟨x, σ, H1, I1, r1, q1⟩)
def tIfS (c : TT) (t u : TS) : TS := fun D σ H => c σ H fun b H1 => if b = true then t D σ H1 else u D σ H1
theorem ps_if {c : Expr} {a b : List Stmt} {tc : TT} (hc : PT X c tc) (ha : PSs X a t) (hb : PSs X b u) : PS X (.If c a b pos) (tIfS tc t u) := by
  intro pins s σ H D I h
  refine wpAny_If (thn (hc pins s σ H _ I h) fun d s1 ⟨H1, I1, q1⟩ => ?_)
  cases d with
  | true => exact ha pins s1 σ H1 D I1 q1
  | false => exact hb pins s1 σ H1 D I1 q1
end

/-! ### targets -/
abbrev TG := V → St → Hp → (St → Hp → Prop) → Prop
abbrev TGs := List V → St → Hp → (St → Hp → Prop) → Prop
def PG (X : Cx) (target : Expr) (t : TG) : Prop :=
  ∀ (pins : List (Addr × Obj)) (s : Shared) (σ : St) (H : Hp) (v : V) (u : Value) (Q : St → Hp → Prop), Inv X pins σ H s → RelV v u → t v σ H Q →
    wpAny (model X.prog X.w) X.A (assign target X.env u) (fun _ s' => ∃ σ' H', Inv X pins σ' H' s' ∧ Q σ' H') X.xe s
def PGs (X : Cx) (ts : List Expr) (t : TGs) : Prop :=
  ∀ (pins : List (Addr × Obj)) (s : Shared) (σ : St) (H : Hp) (vs : List V) (us : List Value) (Q : St → Hp → Prop), Inv X pins σ H s → Vals vs us → t vs σ H Q →
    wpAny (model X.prog X.w) X.A (assignInOrder ((assignEach ts X.env).map (·.2)) us) (fun _ s' => ∃ σ' H', Inv X pins σ' H' s' ∧ Q σ' H') X.xe s
section
variable {X : Cx} {pos : Pos}
def gName (i : Nat) : TG := fun v σ H Q => Q (σ.set i (some v)) H
theorem pg_name {i : Nat} {x : Str} (hN : X.N.Nodup) (hi : X.N[i]? = some x) (hx : Loc X.env.scope x) (hf : X.fn x = true ∨ X.env.scope.names.lookup x = some .local := by first | exact .inl rfl | exact .inr rfl | assumption) : PG X (.Name x pos) (gName i) := by
  intro pins s σ H v u Q I r h
  exact wpAny_assign_Name (store_ok I hN hi hx r (fun s' I' => ⟨_, H, I', h⟩) hf)
def gNil : TGs := fun vs σ H Q => vs = [] ∧ Q σ H
def gCons (t : TG) (u : TGs) : TGs := fun vs σ H Q => ∃ v r, vs = v :: r ∧ t v σ H fun σ' H' => u r σ' H' Q
theorem pgs_nil : PGs X [] gNil := by
  intro pins s σ H vs us Q I r h
  obtain ⟨e, h⟩ := h
  subst e
  cases r
  exact assignInOrder_nil ⟨σ, H, I, h⟩
theorem pgs_cons {e : Expr} {es : List Expr} {t : TG} {u : TGs} (h1 : PG X e t) (h2 : PGs X es u)
    (hs : (assignEach (e :: es) X.env).map (·.2) = assign e X.env :: (assignEach es X.env).map (·.2) := by rfl) : PGs X (e :: es) (gCons t u) := by
  intro pins s σ H vs us Q I r h
  obtain ⟨v, vr, e1, h⟩ := h
  subst e1
  cases r with
  | cons r rr =>
    rw [hs]
    refine assignInOrder_cons (thn (h1 pins s σ H _ _ _ I r h) fun _ s1 ⟨σ1, H1, I1, q1⟩ => ?_)
    exact h2 pins s1 σ1 H1 _ _ Q I1 rr q1
def gTup (K : PySem.W.Frag) (n : Nat) (t : TGs) : TG := fun v σ H Q => ∃ a xs, v = .ref a ∧ SqT K H a xs ∧ xs.length = n ∧ t xs σ H Q
theorem pg_tup {es : List Expr} {k : Nat} {t : TGs} {n : Nat} (hc : X.calm = true) (h : PGs X es t)
    (hn : (assignEach es X.env).length = n := by rfl) (hst : (assignEach es X.env).findIdx? (·.1) = none := by rfl) : PG X (.Tuple es k pos) (gTup X.K n t) := by
  intro pins s σ H v u Q I r hw
  obtain ⟨a, xs, e1, hq, hl, hw⟩ := hw
  subst e1
  cases r
  obtain ⟨its, rv, ht, hz⟩ := I.tuple hq
  refine assign_Tuple_tuple (I.ok.hd hc) ht (by simp [hn, ← hl, rv.length]) hst fun h' hx => ?_
  have I1 : Inv X pins σ H { s with heap := h' } := I.kept (t' := s.toks) fun b o e => hx b o (Nat.ne_of_lt (Heap.lt_size e)) e
  exact h pins _ σ H xs _ Q I1 (by simpa using rv) hw
def tAsg (te : TE) (g : TG) : TS := fun D σ H => te σ H fun x H1 => g x σ H1 D.nx
theorem ps_asg {tg e : Expr} {te : TE} {g : TG} (he : PE X e te) (hg : PG X tg g) (hs : swapsWithSole [tg] e pos.line X.env = pure false := by rfl) (hw : swappedStores [tg] e X.env = pure none := by rfl)
    (h1 : (assignEach [tg] X.env).map (·.2) = [assign tg X.env] := by rfl) : PS X (.Assign [tg] e pos) (tAsg te g) := by
  intro pins s σ H D I h
  refine wpAny_Assign_stores (thn (he pins s σ H _ I h) fun v s1 ⟨x, H1, I1, r1, q1⟩ => ?_) hs hw
  rw [h1]
  exact thn (hg pins s1 σ H1 x v _ I1 r1 q1) fun _ s2 q => q
theorem ps_set {i : Nat} {x : Str} {e : Expr} {te : TE} {pos' : Pos} (hN : X.N.Nodup) (hi : X.N[i]? = some x) (hx : Loc X.env.scope x) (he : PE X e te) (hs : swapsWith e (some (.Name x pos')) pos.line X.env = pure false := by rfl) (hf : X.fn x = true ∨ X.env.scope.names.lookup x = some .local := by first | exact .inl rfl | exact .inr rfl | assumption) :
    PS X (.Assign [.Name x pos'] e pos) (tAsg te (gName i)) := by
  intro pins s σ H D I h
  refine wpAny_Assign_Name (thn (he pins s σ H _ I h) fun v s1 ⟨y, H1, I1, r1, q1⟩ => ?_) hs
  exact store_ok I1 hN hi hx r1 (fun s2 I2 => ⟨_, H1, I2, q1⟩) hf
end

/-! ### while -/
section
variable {X : Cx} {pos : Pos}
end

/-! ### what a loop or a comprehension walks -/
structure It where
  go : Nat → Hp → Prop
  yld : Nat → Hp → V → Hp → Prop
  stop : Nat → Hp → Prop
def FpOk (X : Cx) (pins : List (Addr × Obj)) (H : Hp) (b : Addr) : Prop :=
  H b = none ∧ b ≠ X.env.locals ∧ b ∉ X.fs ∧ (b ∈ X.ex ∨ X.s₀.heap.objs.size ≤ b) ∧ (∀ x c, X.env.cells.lookup x = some c → c ≠ b) ∧ ∀ p ∈ X.pn ++ pins, p.1 ≠ b
theorem Inv.fpOk {X : Cx} {pins : List (Addr × Obj)} {σ : St} {H H' : Hp} {s : Shared} {b : Addr} (I : Inv X pins σ H s) (hb : s.heap.objs.size ≤ b) (hn : H' b = none) : FpOk X pins H' b := by
  refine ⟨hn, Nat.ne_of_gt (Nat.lt_of_lt_of_le I.lt hb), I.nofs hb, .inr (Nat.le_trans I.sz hb), fun x c e z => ?_, fun p hp z => ?_⟩
  · obtain ⟨v, q⟩ := I.cell x c e
    exact absurd (Nat.lt_of_lt_of_le q.lt (by rw [z]; exact hb)) (Nat.lt_irrefl _)
  · exact absurd (Nat.lt_of_lt_of_le (Heap.lt_size (I.pin p hp).1) (by rw [z]; exact hb)) (Nat.lt_irrefl _)
structure Turn (P : Program) (w : World) (K : PySem.W.Frag) (tg : Expr) (J : It) (fp : List Addr) (it : Addr) (tn : Nat → Heap → Prop) : Prop where
  mem : it ∈ fp
  obj : ∀ i h, tn i h → ∀ b ∈ fp, ∃ o, h.get? b = some o ∧ ∀ v, o.data ≠ .cell v
  keep : ∀ i h h', tn i h → (∀ b ∈ fp, ∀ o, h.get? b = some o → h'.get? b = some o) → tn i h'
  item : ∀ (X : Cx), X.prog = P → X.w = w → X.K = K → X.calm = true → ∀ (i : Nat) (pins : List (Addr × Obj)) (s : Shared) (σ : St) (H : Hp) (E : Value → Shared → Prop), Inv X pins σ H s → (∀ b ∈ fp, FpOk X pins H b) → tn i s.heap → J.go i H →
    wpAny (model P w) X.A (pyNext (.ref it)) (fun r s1 => ∃ u, r = some u ∧
      wpAny (model P w) X.A (letOwnedTupleGo tg (.ref it) u) (fun _ s2 => ∃ x H', Inv X pins σ H' s2 ∧ RelV x u ∧ J.yld i H x H' ∧ tn (i + 1) s2.heap ∧ ∀ b ∈ fp, H' b = none) E s1) E s
  done : ∀ (X : Cx), X.prog = P → X.w = w → X.K = K → X.calm = true → ∀ (i : Nat) (pins : List (Addr × Obj)) (s : Shared) (σ : St) (H : Hp) (E : Value → Shared → Prop), Inv X pins σ H s → (∀ b ∈ fp, FpOk X pins H b) → tn i s.heap → J.stop i H →
    wpAny (model P w) X.A (pyNext (.ref it)) (fun r s1 => r = none ∧ Inv X pins σ H s1) E s
  self : ∀ (A : Around) (i : Nat) (s : Shared) (Q : Value → Shared → Prop) (E : Value → Shared → Prop), tn i s.heap → Q (.ref it) s → wpAny (model P w) A (pyIter (.ref it)) Q E s
abbrev TI := St → Hp → (It → Hp → Prop) → Prop
def PIE (X : Cx) (pins : List (Addr × Obj)) (σ : St) (tg : Expr) (R : It → Hp → Prop) (itv : Value) (s2 : Shared) : Prop :=
  ∃ (it : Addr) (fp : List Addr) (tn : Nat → Heap → Prop) (J : It) (H' : Hp), itv = .ref it ∧ Inv X pins σ H' s2 ∧ Turn X.prog X.w X.K tg J fp it tn ∧ tn 0 s2.heap ∧ (∀ b ∈ fp, FpOk X pins H' b) ∧ R J H'
def PI (X : Cx) (tg iter : Expr) (wi : TI) : Prop :=
  ∀ (pins : List (Addr × Obj)) (s : Shared) (σ : St) (H : Hp) (R : It → Hp → Prop), Inv X pins σ H s → wi σ H R →
    wpAny (model X.prog X.w) X.A (eval iter X.env) (fun v s1 => wpAny (model X.prog X.w) X.A (pyIter v) (PIE X pins σ tg R) X.xe s1) X.xe s

theorem go_of {M : Model} {A : Around} {E : Value → Shared → Prop} {s : Shared} {tg : Expr} {it : Addr} {u : Value} {o : Obj} {n : String} {vs : Array Value} {Q : Unit → Shared → Prop} (ho : s.heap.get? it = some o) (hc : o.cls = .type n) (hd : o.data = .fields vs)
    (hn : ["enumerate", "zip", "dict_itemiterator", "dict_reverseitemiterator", "odict_iterator", "itertools.zip_longest", "itertools.pairwise"].contains n = false) (hQ : Q () s) : wpAny M A (letOwnedTupleGo tg (.ref it) u) Q E s := by
  unfold letOwnedTupleGo
  cases tg <;> first
    | exact wpAny_pure hQ
    | (cases u <;> first
        | exact wpAny_pure hQ
        | (refine wpAny_bind (wpAny_load ho ?_)
           rw [hc, hd]
           show wpAny M A (if (["enumerate", "zip", "dict_itemiterator", "dict_reverseitemiterator", "odict_iterator", "itertools.zip_longest", "itertools.pairwise"].contains n && vs[0]? == some (rawInt _)) = true then _ else _) Q E s
           rw [if_neg (by intro h; rw [hn, Bool.false_and] at h; cases h)]
           exact wpAny_pure hQ))

def Itl (K : PySem.W.Frag) (a : Addr) : It :=
  ⟨fun i H => ∃ xs x, SqL K H a xs ∧ xs[i]? = some x, fun i H x H' => H' = H ∧ ∀ xs, SqL K H a xs → xs[i]? = some x, fun i H => ∃ xs, SqL K H a xs ∧ xs.length ≤ i⟩
def Itt (K : PySem.W.Frag) (a : Addr) : It :=
  ⟨fun i H => ∃ xs x, SqT K H a xs ∧ xs[i]? = some x, fun i H x H' => H' = H ∧ ∀ xs, SqT K H a xs → xs[i]? = some x, fun i H => ∃ xs, SqT K H a xs ∧ xs.length ≤ i⟩
def Itr (lo : Int) (n : Nat) : It := ⟨fun i _ => i < n, fun i H x H' => H' = H ∧ x = .int (lo + i), fun i _ => n ≤ i⟩
theorem turn_list {P : Program} {w : World} {K : PySem.W.Frag} {tg : Expr} (a it : Addr) : Turn P w K tg (Itl K a) [it] it (fun i h => h.IsListIter it a i) where
  mem := by simp
  obj := fun i h st b hb => by
    have e : b = it := by simpa using hb
    subst e
    obtain ⟨o, e, c, d⟩ := st
    exact ⟨o, e, fun v z => by rw [d] at z; cases z⟩
  keep := fun i h h' st k => st.at fun o e => k it (by simp) o e
  item := by
    intro X hP hw hK hc i pins s σ H E I hf st hg
    subst hP hw hK
    obtain ⟨xs, x, hq, hx⟩ := hg
    obtain ⟨its, rv, p, hz⟩ := I.list hq
    obtain ⟨u, hu, ru⟩ := rv.get hx
    obtain ⟨f0, f1, f2, f3, f4, f5⟩ := hf it (by simp)
    refine wpAny_pyNext_list_item st p.isList (x := u) (by simpa using hu) fun h' st' sb => ?_
    have I1 : Inv X pins σ H { s with heap := h' } := I.turned (t' := s.toks) (fun b o hb e => (sb.2 b hb).trans e) f0 f1 f3 f4 f5
    obtain ⟨o, e, c, d⟩ := id st'
    exact ⟨u, rfl, go_of (s := { s with heap := h' }) e c d (by decide) ⟨x, H, I1, ru, ⟨rfl, fun ys hy => by rw [I.list_inj hy hq]; exact hx⟩, st', fun b hb => (hf b hb).1⟩⟩
  done := by
    intro X hP hw hK hc i pins s σ H E I hf st hg
    subst hP hw hK
    obtain ⟨xs, hq, hx⟩ := hg
    obtain ⟨its, rv, p, hz⟩ := I.list hq
    obtain ⟨f0, f1, f2, f3, f4, f5⟩ := hf it (by simp)
    have hl := rv.length
    exact wpAny_pyNext_list_end (I.ok.hd hc) st p.isList (by simp; omega) fun h' eb => ⟨rfl, I.turned (t' := s.toks) (fun b o hb e => eb b o hb e) f0 f1 f3 f4 f5⟩
  self := fun _ _ _ _ _ st h => wpAny_pyIter_listiter st h
theorem turn_range {P : Program} {w : World} {K : PySem.W.Frag} {tg : Expr} (it : Addr) (lo : Int) (n : Nat) : Turn P w K tg (Itr lo n) [it] it (fun i h => IsRangeIter h it (lo + (i : Nat) * 1) ((n : Int) - (i : Nat)) 1) where
  mem := by simp
  obj := fun i h st b hb => by
    have e : b = it := by simpa using hb
    subst e
    exact ⟨_, st, fun v z => by
      have z' : Data.fields _ = Data.cell v := z
      cases z'⟩
  keep := fun i h h' st k => k it (by simp) _ st
  item := by
    intro X hP hw hK hc i pins s σ H E I hf st hg
    subst hP hw hK
    obtain ⟨f0, f1, f2, f3, f4, f5⟩ := hf it (by simp)
    have W := Walks.range (prog := X.prog) (w := X.w) (I.ok.hd hc) it lo 1 n
    refine W.item i s _ _ hg st fun v h' tk hv st' kk => ?_
    obtain ⟨t, rfl⟩ := hv
    have I1 : Inv X pins σ H { s with heap := h', toks := tk } := I.turned (fun b o hb e => kk b o (by simpa using hb) e) f0 f1 f3 f4 f5
    refine ⟨_, rfl, go_of (s := { s with heap := h', toks := tk }) (n := "range_iterator") st' rfl rfl (by decide) ⟨.int (lo + i), H, I1, ⟨t, ?_⟩, ⟨rfl, rfl⟩, st', fun b hb => (hf b hb).1⟩⟩
    rw [Int.mul_one]
  done := by
    intro X hP hw hK hc i pins s σ H E I hf st hg
    subst hP hw hK
    obtain ⟨f0, f1, f2, f3, f4, f5⟩ := hf it (by simp)
    exact wpAny_pyNext_range_end (I.ok.hd hc) st (by have : n ≤ i := hg; omega) fun h' eb => ⟨rfl, I.turned (t' := s.toks) (fun b o hb e => eb b o hb e) f0 f1 f3 f4 f5⟩
  self := fun _ _ _ _ _ st h => wpAny_pyIter_rangeiter st h
end L2

namespace L2
open PySem PySem.Spec PyProof.Rows
section
variable {X : Cx} {tg : Expr}
def iList (K : PySem.W.Frag) (tl : TE) : TI := fun σ H R => tl σ H fun x H1 => ∃ a, x = .ref a ∧ (∃ xs, SqL K H1 a xs) ∧ R (Itl K a) H1
theorem pi_list {l : Expr} {tl : TE} (hl : PE X l tl) : PI X tg l (iList X.K tl) := by
  intro pins s σ H R I h
  refine thn (hl pins s σ H _ I h) fun v s1 ⟨x, H1, I1, r1, q1⟩ => ?_
  obtain ⟨a, e, ⟨xs, hq⟩, q⟩ := q1
  subst e
  cases r1
  obtain ⟨its, rv, p, hz⟩ := I1.list hq
  refine wpAny_pyIter_list p.isList ?_
  refine ⟨s1.heap.objs.size, [s1.heap.objs.size], _, _, H1, rfl, I1.kept (t' := s1.toks) fun b o e => Heap.get?_push_of_some _ e, turn_list a _, ⟨_, Heap.get?_push_size _ rfl, rfl, rfl⟩, fun b hb => ?_, q⟩
  have e : b = s1.heap.objs.size := by simpa using hb
  subst e
  exact I1.fpOk (Nat.le_refl _) (I1.hok.fresh (Nat.le_refl _))
theorem range_it {pins : List (Addr × Obj)} {σ : St} {H : Hp} {s : Shared} {R : It → Hp → Prop} {E : Value → Shared → Prop} {lo hi : Int} {t u v : Tok} {tk : Nat} (I : Inv X pins σ H s) (h1 : -(2 ^ 62) ≤ lo) (h2 : lo < 2 ^ 62) (h3 : -(2 ^ 62) ≤ hi) (h4 : hi < 2 ^ 62)
    (q : R (Itr lo (hi - lo).toNat) H) : wpAny (model X.prog X.w) X.A (pyIter (.ref s.heap.objs.size)) (PIE X pins σ tg R) E { s with heap := s.heap.push { cls := .type "range", data := .fields #[.int lo t, .int hi u, .int 1 v] }, toks := tk } := by
  refine wpAny_pyIter_range (IsRange.new ..) (small_one h1 h2 h3 h4) ?_
  have I1 : Inv X pins σ H { s with heap := s.heap.push { cls := .type "range", data := .fields #[.int lo t, .int hi u, .int 1 v] }, toks := tk } := I.kept fun b o e => Heap.get?_push_of_some _ e
  refine ⟨(s.heap.push { cls := .type "range", data := .fields #[.int lo t, .int hi u, .int 1 v] }).objs.size, [(s.heap.push { cls := .type "range", data := .fields #[.int lo t, .int hi u, .int 1 v] }).objs.size], _, _, H, rfl,
    I1.kept (t' := tk) fun b o e => Heap.get?_push_of_some _ e, turn_range _ lo (hi - lo).toNat, ?_, fun b hb => ?_, q⟩
  · have e1 : lo + ((0 : Nat) : Int) * 1 = lo := by simp
    have e2 : (((hi - lo).toNat : Nat) : Int) - ((0 : Nat) : Int) = Builtin.Range.rangeSize lo hi 1 := by rw [rangeSize_one]; split <;> omega
    show IsRangeIter _ _ (lo + ((0 : Nat) : Int) * 1) ((((hi - lo).toNat : Nat) : Int) - ((0 : Nat) : Int)) 1
    rw [e1, e2]
    exact Heap.get?_push_size _ rfl
  · have e : b = (s.heap.push { cls := .type "range", data := .fields #[.int lo t, .int hi u, .int 1 v] }).objs.size := by simpa using hb
    subst e
    exact I1.fpOk (Nat.le_refl _) (I1.hok.fresh (Nat.le_refl _))
def iRng1 (ta : TA) : TI := fun σ H R => ta σ H fun vs H1 => ∃ j : Int, vs = [.int j] ∧ -(2 ^ 62) ≤ j ∧ j < 2 ^ 62 ∧ R (Itr 0 j.toNat) H1
def iRng2 (ta : TA) : TI := fun σ H R => ta σ H fun vs H1 => ∃ i j : Int, vs = [.int i, .int j] ∧ (-(2 ^ 62) ≤ i ∧ i < 2 ^ 62 ∧ -(2 ^ 62) ≤ j ∧ j < 2 ^ 62) ∧ R (Itr i (j - i).toNat) H1
theorem pi_range1 {a : Expr} {ta : TA} {p pos : Pos} (hg : Gl X "range") (hm : X.mg "range" = none) (ha : PA X [a] ta) (hs : starEach [a] X.env = [(false, eval a X.env)] := by rfl) : PI X tg (.Call (.Name "range" p) [a] [] pos) (iRng1 ta) := by
  intro pins s σ H R I h
  refine Call_ (ld_blt I hg hm boot_range (PyProof.Rows.callWith_type1 (thn (ha pos pins s σ H _ I h) fun us s1 ⟨vs, H1, I1, r1, q1⟩ => ?_) hs rfl))
  obtain ⟨j, e, q1, q2, q⟩ := q1
  subst e
  cases r1 with
  | cons r rr =>
    cases rr
    obtain ⟨t, rfl⟩ := r
    exact call_range_1 (range_it I1 (by omega) (by omega) q1 q2 (by simpa using q))
theorem pi_range2 {a b : Expr} {ta : TA} {p pos : Pos} (hg : Gl X "range") (hm : X.mg "range" = none) (ha : PA X [a, b] ta) (hs : starEach [a, b] X.env = [(false, eval a X.env), (false, eval b X.env)] := by rfl) (hs2 : starEach [b] X.env = [(false, eval b X.env)] := by rfl) :
    PI X tg (.Call (.Name "range" p) [a, b] [] pos) (iRng2 ta) := by
  intro pins s σ H R I h
  refine Call_ (ld_blt I hg hm boot_range (PyProof.Rows.callWith_type1 (thn (ha pos pins s σ H _ I h) fun us s1 ⟨vs, H1, I1, r1, q1⟩ => ?_) (by rw [hs, hs2]) (by rw [hs2]; rfl)))
  obtain ⟨i, j, e, ⟨q1, q2, q3, q4⟩, q⟩ := q1
  subst e
  cases r1 with
  | cons r rr =>
    cases rr with
    | cons r' rr =>
      cases rr
      obtain ⟨t, rfl⟩ := r
      obtain ⟨t', rfl⟩ := r'
      exact call_range_2 (range_it I1 q1 q2 q3 q4 q)

/-! ### for -/
def tFor (wi : TI) (g : TG) (tb : TS) : TS := fun D σ H => wi σ H fun J H1 => ∃ W : Nat → Nat → St → Hp → Prop, (∃ m, W 0 m σ H1) ∧ ∀ i m σ H, W i m σ H →
  (J.stop i H ∧ D.nx σ H) ∨ (J.go i H ∧ ∃ N : St → Hp → Prop, (∀ σ' H', N σ' H' → ∃ m', m' < m ∧ W (i + 1) m' σ' H') ∧ ∀ x H', J.yld i H x H' → g x σ H' fun σ2 H2 => tb { D with nx := N, ct := N, bk := D.nx } σ2 H2)
def pinsAt (fp : List Addr) (h : Heap) : List (Addr × Obj) := fp.filterMap fun b => (h.get? b).map fun o => (b, o)
theorem mem_pinsAt {fp : List Addr} {h : Heap} {b : Addr} {o : Obj} (hb : b ∈ fp) (e : h.get? b = some o) : (b, o) ∈ pinsAt fp h := List.mem_filterMap.mpr ⟨b, hb, by rw [e]; rfl⟩
theorem of_pinsAt {fp : List Addr} {h : Heap} {p : Addr × Obj} (hp : p ∈ pinsAt fp h) : p.1 ∈ fp ∧ h.get? p.1 = some p.2 := by
  obtain ⟨b, hb, e⟩ := List.mem_filterMap.mp hp
  cases q : h.get? b with
  | none => rw [q] at e; cases e
  | some o =>
    rw [q] at e
    have e' : (b, o) = p := Option.some.inj e
    subst e'
    exact ⟨hb, q⟩
theorem Inv.pinned {pins : List (Addr × Obj)} {σ : St} {H : Hp} {s : Shared} {fp : List Addr} (I : Inv X pins σ H s) (hf : ∀ b ∈ fp, FpOk X pins H b) (ho : ∀ b ∈ fp, ∃ o, s.heap.get? b = some o ∧ ∀ v, o.data ≠ .cell v) : Inv X (pins ++ pinsAt fp s.heap) σ H s :=
  I.pins_of fun p hp => (List.mem_append.mp hp).elim (fun z => I.pin p (List.mem_append_right _ z)) fun z => by
    obtain ⟨hb, e⟩ := of_pinsAt z
    obtain ⟨f0, f1, f2, _⟩ := hf p.1 hb
    obtain ⟨o, e', d⟩ := ho p.1 hb
    rw [e] at e'; cases e'
    exact ⟨e, f0, f1, f2, d⟩
theorem Inv.unpinned {pins pl : List (Addr × Obj)} {σ : St} {H : Hp} {s : Shared} (I : Inv X (pins ++ pl) σ H s) : Inv X pins σ H s := I.pins_of fun p hp => I.pin p (List.mem_append_right _ (List.mem_append_left _ hp))
theorem ps_for {iter : Expr} {body : List Stmt} {wi : TI} {g : TG} {tb : TS} {pos : Pos} (hp : PassesOwn (model X.prog X.w) X.A X.env X.xe) (hc : X.calm = true) (hi : PI X tg iter wi) (hg : PG X tg g) (hb : PSs X body tb)
    (hs : ∀ x, foldedSetIterable iter X.env x = pure x := by intro _; rfl) : PS X (.For tg iter body [] pos) (tFor wi g tb) := by
  intro pins s σ H D I h
  refine wpAny_For (thn (hi pins s σ H _ I h) fun v s1 h1 => thn h1 fun itv s2 h2 => ?_) hs
  obtain ⟨it, fp, tn, J, H2, e, I2, T, st2, f2, W, ⟨m0, w0⟩, turn⟩ := h2
  subst e
  -- what stays true of the iterator's objects through the loop
  have stat : ∀ {H' : Hp}, (∀ b ∈ fp, H' b = none) → ∀ b ∈ fp, FpOk X pins H' b := fun hn b hb => ⟨hn b hb, (f2 b hb).2⟩
  refine codeAny_forLoop_any (fun n s' => ∃ i σ' H', Inv X pins σ' H' s' ∧ tn i s'.heap ∧ (∀ b ∈ fp, H' b = none) ∧ W i n σ' H') ?_ m0 ⟨0, σ, H2, I2, st2, fun b hb => (f2 b hb).1, w0⟩
  rintro n s3 ⟨i, σ3, H3, I3, st3, fr3, w3⟩
  rcases turn i n σ3 H3 w3 with ⟨stop, qn⟩ | ⟨go, N, hN, step⟩
  · refine wpAny_passesOwn hp (thn (T.done X rfl rfl rfl hc i pins s3 σ3 H3 X.xe I3 (stat fr3) st3 stop) fun r s4 ⟨hr, I4⟩ => ?_)
    subst hr
    exact wpAny_execs_nil ⟨σ3, H3, I4, qn⟩
  · refine wpAny_passesOwn hp (thn (T.item X rfl rfl rfl hc i pins s3 σ3 H3 X.xe I3 (stat fr3) st3 go) fun r s4 ⟨u, hr, h4⟩ => ?_)
    subst hr
    refine wpAny_passesOwn hp (thn h4 fun _ s5 ⟨x, H5, I5, r5, y5, st5, fr5⟩ => ?_)
    have I5' := I5.pinned (stat fr5) (T.obj _ _ st5)
    refine wpAny_passesOwn hp (thn (hg _ s5 σ3 H5 x u _ I5' r5 (step x H5 y5)) fun _ s6 ⟨σ6, H6, I6, q6⟩ => ?_)
    refine wpAny_passesOwn hp (thn (hb _ s6 σ6 H6 _ I6 q6) fun f s7 q7 => ?_)
    have again : ∀ {σ7 : St} {H7 : Hp}, Inv X (pins ++ pinsAt fp s5.heap) σ7 H7 s7 → N σ7 H7 → ∃ m, m < n ∧ ∃ i σ' H', Inv X pins σ' H' s7 ∧ tn i s7.heap ∧ (∀ b ∈ fp, H' b = none) ∧ W i m σ' H' := fun {σ7 H7} I7 n7 => by
      obtain ⟨m', hm, w7⟩ := hN σ7 H7 n7
      refine ⟨m', hm, i + 1, σ7, H7, I7.unpinned, T.keep _ _ _ st5 fun b hb o e => (I7.pin (b, o) (List.mem_append_right _ (List.mem_append_right _ (mem_pinsAt hb e)))).1, fun b hb => ?_, w7⟩
      obtain ⟨o, e, d⟩ := T.obj _ _ st5 b hb
      exact (I7.pin (b, o) (List.mem_append_right _ (List.mem_append_right _ (mem_pinsAt hb e)))).2.1
    cases f with
    | next => obtain ⟨σ7, H7, I7, n7⟩ := q7; exact again I7 n7
    | cont => obtain ⟨σ7, H7, I7, n7⟩ := q7; exact again I7 n7
    | brk => obtain ⟨σ7, H7, I7, q7⟩ := q7; exact ⟨σ7, H7, I7.unpinned, q7⟩
    | ret v => obtain ⟨x7, σ7, H7, I7, r7, q7⟩ := q7; exact ⟨x7, σ7, H7, I7.unpinned, r7, q7⟩
end

/-! ### the forms one uses -/
theorem for_list {K : PySem.W.Frag} {a : Addr} {xs : List V} {g : TG} {tb : TS} {D : Ends} {σ : St} {H : Hp} (Pv : Nat → St → Hp → Prop) (h0 : Pv 0 σ H) (hl : ∀ i σ H, i ≤ xs.length → Pv i σ H → SqL K H a xs)
    (hs : ∀ i x σ H, xs[i]? = some x → Pv i σ H → g x σ H fun σ2 H2 => tb { D with nx := Pv (i + 1), ct := Pv (i + 1), bk := D.nx } σ2 H2) (hd : ∀ σ H, Pv xs.length σ H → D.nx σ H) :
    ∃ W : Nat → Nat → St → Hp → Prop, (∃ m, W 0 m σ H) ∧ ∀ i m σ H, W i m σ H →
      ((Itl K a).stop i H ∧ D.nx σ H) ∨ ((Itl K a).go i H ∧ ∃ N : St → Hp → Prop, (∀ σ' H', N σ' H' → ∃ m', m' < m ∧ W (i + 1) m' σ' H') ∧ ∀ x H', (Itl K a).yld i H x H' → g x σ H' fun σ2 H2 => tb { D with nx := N, ct := N, bk := D.nx } σ2 H2) := by
  refine ⟨fun i m σ H => m = xs.length - i ∧ i ≤ xs.length ∧ Pv i σ H, ⟨xs.length, by simp, Nat.zero_le _, h0⟩, ?_⟩
  rintro i m σ H ⟨rfl, hi, p⟩
  have q := hl i σ H hi p
  by_cases hlt : i < xs.length
  · refine .inr ⟨⟨xs, xs[i], q, by simp [hlt]⟩, Pv (i + 1), fun σ' H' p' => ⟨xs.length - (i + 1), by omega, rfl, hlt, p'⟩, fun x H' y => ?_⟩
    obtain ⟨e, y⟩ := y
    subst e
    exact hs i x σ _ (y xs q) p
  · have e : i = xs.length := by omega
    subst e
    exact .inl ⟨⟨xs, q, Nat.le_refl _⟩, hd σ H p⟩
theorem for_range {lo : Int} {n : Nat} {g : TG} {tb : TS} {D : Ends} {σ : St} {H : Hp} (Pv : Nat → St → Hp → Prop) (h0 : Pv 0 σ H)
    (hs : ∀ i σ H, i < n → Pv i σ H → g (.int (lo + i)) σ H fun σ2 H2 => tb { D with nx := Pv (i + 1), ct := Pv (i + 1), bk := D.nx } σ2 H2) (hd : ∀ σ H, Pv n σ H → D.nx σ H) :
    ∃ W : Nat → Nat → St → Hp → Prop, (∃ m, W 0 m σ H) ∧ ∀ i m σ H, W i m σ H →
      ((Itr lo n).stop i H ∧ D.nx σ H) ∨ ((Itr lo n).go i H ∧ ∃ N : St → Hp → Prop, (∀ σ' H', N σ' H' → ∃ m', m' < m ∧ W (i + 1) m' σ' H') ∧ ∀ x H', (Itr lo n).yld i H x H' → g x σ H' fun σ2 H2 => tb { D with nx := N, ct := N, bk := D.nx } σ2 H2) := by
  refine ⟨fun i m σ H => m = n - i ∧ i ≤ n ∧ Pv i σ H, ⟨n, by simp, Nat.zero_le _, h0⟩, ?_⟩
  rintro i m σ H ⟨rfl, hi, p⟩
  by_cases hlt : i < n
  · refine .inr ⟨hlt, Pv (i + 1), fun σ' H' p' => ⟨n - (i + 1), by omega, rfl, hlt, p'⟩, fun x H' y => ?_⟩
    obtain ⟨e, y⟩ := y
    subst e y
    exact hs i σ _ hlt p
  · have e : i = n := by omega
    subst e
    exact .inl ⟨Nat.le_refl _, hd σ H p⟩
end L2

namespace L2
open PySem PySem.Spec PyProof.Rows

abbrev R2 := V → V → Hp → VK → Prop
def OpR (X : Cx) (f : Value → Value → Sem Value) (r : R2) : Prop :=
  ∀ (pins : List (Addr × Obj)) (s : Shared) (σ : St) (H : Hp) (x y : V) (v u : Value) (Q : VK), Inv X pins σ H s → RelV x v → RelV y u → r x y H Q →
    wpAny (model X.prog X.w) X.A (f v u) (EP X pins σ Q) X.xe s
def UnR (X : Cx) (f : Value → Sem Value) (r : V → Hp → VK → Prop) : Prop :=
  ∀ (pins : List (Addr × Obj)) (s : Shared) (σ : St) (H : Hp) (x : V) (v : Value) (Q : VK), Inv X pins σ H s → RelV x v → r x H Q →
    wpAny (model X.prog X.w) X.A (f v) (EP X pins σ Q) X.xe s
def CallR (X : Cx) (f : Value) (r : List V → Hp → VK → Prop) : Prop :=
  ∀ (pins : List (Addr × Obj)) (s : Shared) (σ : St) (H : Hp) (xs : List V) (us : List Value) (Q : VK), Inv X pins σ H s → Vals xs us → r xs H Q →
    wpAny (model X.prog X.w) X.A (call f us) (EP X pins σ Q) X.xe s
def tOp (r : R2) (ta tb : TE) : TE := fun σ H Q => ta σ H fun x H1 => tb σ H1 fun y H2 => r x y H2 Q
def tUn (r : V → Hp → VK → Prop) (ta : TE) : TE := fun σ H Q => ta σ H fun x H1 => r x H1 Q
def rI (C : Int → Int → Prop) (g : Int → Int → V) : R2 := fun x y H Q => ∃ i j, x = .int i ∧ y = .int j ∧ C i j ∧ Q (g i j) H
def rI0 (g : Int → Int → V) : R2 := fun x y H Q => ∃ i j, x = .int i ∧ y = .int j ∧ Q (g i j) H
def rU (g : Int → V) : V → Hp → VK → Prop := fun x H Q => ∃ i, x = .int i ∧ Q (g i) H

section
variable {X : Cx} {a b c : Expr} {ta tb tc : TE} {pos : Pos}

theorem binT (ha : PE X a ta) (hb : PE X b tb) {pins : List (Addr × Obj)} {s : Shared} {σ : St} {H : Hp} {R : V → V → Hp → Prop} (I : Inv X pins σ H s)
    (h : ta σ H fun x H1 => tb σ H1 fun y H2 => R x y H2) {Q : Value → Shared → Prop} {f : Value → Value → Sem Value}
    (hf : ∀ v u s2 x y H2, Inv X pins σ H2 s2 → RelV x v → RelV y u → R x y H2 → wpAny (model X.prog X.w) X.A (f v u) Q X.xe s2) :
    wpAny (model X.prog X.w) X.A (eval a X.env) (fun v s₁ => wpAny (model X.prog X.w) X.A (eval b X.env) (fun u s₂ => wpAny (model X.prog X.w) X.A (f v u) Q X.xe s₂) X.xe s₁) X.xe s := by
  refine thn (ha pins s σ H _ I h) fun v s1 ⟨x, H1, I1, r1, q1⟩ => ?_
  refine thn (hb pins s1 σ H1 _ I1 q1) fun u s2 ⟨y, H2, I2, r2, q2⟩ => ?_
  exact hf v u s2 x y H2 I2 r1 r2 q2

theorem pe_op {op : Operator} {r : R2} (ho : OpR X (binaryOp op) r) (ha : PE X a ta) (hb : PE X b tb) : PE X (.BinOp a op b pos) (tOp r ta tb) := by
  intro pins s σ H Q I h
  exact wpAny_BinOp (binT ha hb I h fun v u s2 x y H2 I2 rx ry q => ho pins s2 σ H2 x y v u Q I2 rx ry q)
theorem pe_un {op : UnaryOp} {r : V → Hp → VK → Prop} (ho : UnR X (unaryOp op) r) (ha : PE X a ta) : PE X (.UnaryOp op a pos) (tUn r ta) := by
  intro pins s σ H Q I h
  exact UnaryOp_ (thn (ha pins s σ H _ I h) fun v s1 ⟨x, H1, I1, r1, q1⟩ => ho pins s1 σ H1 x v Q I1 r1 q1)
/-! ### ints -/
theorem opI {f : Value → Value → Sem Value} {C : Int → Int → Prop} {g : Int → Int → Int}
    (rule : ∀ (i j : Int) (t u : Tok) (s : Shared) (Q : Value → Shared → Prop) (E : Value → Shared → Prop), C i j → Q (.int (g i j) s.toks) { s with toks := s.toks + 1 } → wpAny (model X.prog X.w) X.A (f (.int i t) (.int j u)) Q E s) :
    OpR X f (rI C fun i j => .int (g i j)) := by
  intro pins s σ H x y v u Q I rx ry h
  obtain ⟨i, j, rfl, rfl, hc, q⟩ := h
  obtain ⟨t, rfl⟩ := rx
  obtain ⟨t', rfl⟩ := ry
  exact rule i j t t' s _ _ hc ⟨.int (g i j), H, I.tok _, ⟨_, rfl⟩, q⟩
theorem opI0 {f : Value → Value → Sem Value} {g : Int → Int → Int}
    (rule : ∀ (i j : Int) (t u : Tok) (s : Shared) (Q : Value → Shared → Prop) (E : Value → Shared → Prop), Q (.int (g i j) s.toks) { s with toks := s.toks + 1 } → wpAny (model X.prog X.w) X.A (f (.int i t) (.int j u)) Q E s) :
    OpR X f (rI0 fun i j => .int (g i j)) := by
  intro pins s σ H x y v u Q I rx ry h
  obtain ⟨i, j, rfl, rfl, q⟩ := h
  obtain ⟨t, rfl⟩ := rx
  obtain ⟨t', rfl⟩ := ry
  exact rule i j t t' s _ _ ⟨.int (g i j), H, I.tok _, ⟨_, rfl⟩, q⟩
theorem opB0 {f : Value → Value → Sem Value} {g : Int → Int → Bool}
    (rule : ∀ (i j : Int) (t u : Tok) (s : Shared) (Q : Value → Shared → Prop) (E : Value → Shared → Prop), Q (.bool (g i j)) s → wpAny (model X.prog X.w) X.A (f (.int i t) (.int j u)) Q E s) :
    OpR X f (rI0 fun i j => .bl (g i j)) := by
  intro pins s σ H x y v u Q I rx ry h
  obtain ⟨i, j, rfl, rfl, q⟩ := h
  obtain ⟨t, rfl⟩ := rx
  obtain ⟨t', rfl⟩ := ry
  exact rule i j t t' s _ _ ⟨.bl (g i j), H, I, rfl, q⟩

def CDiv (i j : Int) : Prop := 0 < j ∧ j < 1073741824
def CMul (i j : Int) : Prop := (-(2 ^ 64) < i ∧ i < 2 ^ 64) ∨ (-(2 ^ 64) < j ∧ j < 2 ^ 64)
theorem CMul.ok {i j : Int} (h : CMul i j) : IntMulOk i j := by
  rcases h with ⟨h1, h2⟩ | ⟨h1, h2⟩
  · exact .of_left (intBits_le_64 h1 h2)
  · exact .of_right (intBits_le_64 h1 h2)
theorem two_pow_nn (k : Nat) : (0 : Int) ≤ 2 ^ k := by
  rw [two_pow_cast]
  exact Int.natCast_nonneg _

theorem op_add : OpR X (binaryOp .Add) (rI0 fun i j => .int (i + j)) := opI0 fun _ _ _ _ _ _ _ q => add_int q
theorem op_mul : OpR X (binaryOp .Mult) (rI CMul fun i j => .int (i * j)) := opI fun _ _ _ _ _ _ _ hc q => mul_int q hc.ok
theorem op_fdiv : OpR X (binaryOp .FloorDiv) (rI CDiv fun i j => .int (i / j)) := opI fun i j _ _ _ _ _ hc q => by
  have h1 : (0 : Int) < j := hc.1
  have h2 : j < 1073741824 := hc.2
  exact floordiv_int (by omega) (by rw [Int.fdiv_eq_ediv_of_nonneg i (by omega)]; exact q) (.inl (PyProof.noPylong_small (by omega)))
theorem op_mod : OpR X (binaryOp .Mod) (rI (fun _ j => 0 < j) fun i j => .int (i % j)) := opI fun i j _ _ _ _ _ hc q => by
  have h1 : (0 : Int) < j := hc
  exact mod_int' (by omega) (by rw [Int.fmod_eq_emod_of_nonneg i (by omega)]; exact q)
theorem op_shr : OpR X (binaryOp .RShift) (rI (fun _ j => 0 ≤ j) fun i j => .int (i / 2 ^ j.toNat)) := opI fun i j _ _ _ _ _ hc q =>
  rshift_int hc (by rw [Int.fdiv_eq_ediv_of_nonneg i (two_pow_nn _)]; exact q)
theorem unI {f : Value → Sem Value} {g : Int → Int}
    (rule : ∀ (i : Int) (t : Tok) (s : Shared) (Q : Value → Shared → Prop) (E : Value → Shared → Prop), Q (.int (g i) s.toks) { s with toks := s.toks + 1 } → wpAny (model X.prog X.w) X.A (f (.int i t)) Q E s) :
    UnR X f (rU fun i => .int (g i)) := by
  intro pins s σ H x v Q I rx h
  obtain ⟨i, rfl, q⟩ := h
  obtain ⟨t, rfl⟩ := rx
  exact rule i t s _ _ ⟨.int (g i), H, I.tok _, ⟨_, rfl⟩, q⟩
theorem un_neg : UnR X (unaryOp .USub) (rU fun i => .int (-i)) := unI fun _ _ _ _ _ q => neg_int q
/-! ### bools among ints: n += (a < b) -/
end

/-! ### comparisons -/
def scal : V → V → Bool
  | .non, .non => true | .non, .int _ => true | .int _, .non => true | .non, .bl _ => true | .bl _, .non => true | .non, .str _ => true | .str _, .non => true
  | .int _, .int _ => true | .bl _, .bl _ => true | .str _, .str _ => true | .byt _, .byt _ => true
  | .int _, .str _ => true | .str _, .int _ => true | .bl _, .str _ => true | .str _, .bl _ => true
  | _, _ => false
def rEq : R2 := fun x y H Q => scal x y = true ∧ Q (.bl (decide (x = y))) H
def rNe : R2 := fun x y H Q => scal x y = true ∧ Q (.bl (!decide (x = y))) H

theorem dec_int {i j : Int} : decide (V.int i = V.int j) = (i == j) := by
  rw [Bool.eq_iff_iff]
  simp
theorem dec_bl {i j : Bool} : decide (V.bl i = V.bl j) = (i == j) := by
  rw [Bool.eq_iff_iff]
  simp
theorem dec_str {i j : Str} : decide (V.str i = V.str j) = (i == j) := by
  rw [Bool.eq_iff_iff]
  simp
theorem dec_byt {i j : Array UInt8} : decide (V.byt i = V.byt j) = (i.toList == j.toList) := by
  rw [Bool.eq_iff_iff]
  cases i
  cases j
  simp

section
variable {X : Cx} {a b c : Expr} {ta tb tc : TE} {pos : Pos}
theorem fin_bl {pins : List (Addr × Obj)} {σ : St} {H : Hp} {s : Shared} {Q : VK} {k k' : Bool} (I : Inv X pins σ H s) (q : Q (.bl k) H) (e : k = k') : EP X pins σ Q (.bool k') s := by
  subst e
  exact ⟨.bl k, H, I, rfl, q⟩
theorem op_eq : OpR X (compareOp .Eq) rEq := by
  intro pins s σ H x y v u Q I rx ry h
  obtain ⟨hs, q⟩ := h
  cases x with
  | non =>
    cases rx
    cases y with
    | non => cases ry; exact PySem.EqNone.eq_none_none (fin_bl I q (by simp))
    | bl j => cases ry; exact PySem.EqNone.eq_none_bool (fin_bl I q (by simp))
    | int j => obtain ⟨t', rfl⟩ := ry; exact PySem.EqNone.eq_none_int (fin_bl I q (by simp))
    | str j => obtain ⟨t', rfl⟩ := ry; exact PySem.EqNone.eq_none_str (fin_bl I q (by simp))
    | _ => exact absurd (show false = true from hs) Bool.false_ne_true
  | bl i =>
    cases rx
    cases y with
    | non => cases ry; exact PySem.EqNone.eq_bool_none (fin_bl I q (by simp))
    | bl j => cases ry; exact eq_bool (fin_bl I q dec_bl)
    | str j => obtain ⟨t', rfl⟩ := ry; exact PySem.EqMixed.eq_bool_str (fin_bl I q (by simp))
    | _ => exact absurd (show false = true from hs) Bool.false_ne_true
  | int i =>
    obtain ⟨t, rfl⟩ := rx
    cases y with
    | non => cases ry; exact PySem.EqNone.eq_int_none (fin_bl I q (by simp))
    | int j => obtain ⟨t', rfl⟩ := ry; exact eq_int (fin_bl I q dec_int)
    | str j => obtain ⟨t', rfl⟩ := ry; exact PySem.EqMixed.eq_int_str (fin_bl I q (by simp))
    | _ => exact absurd (show false = true from hs) Bool.false_ne_true
  | str i =>
    obtain ⟨t, rfl⟩ := rx
    cases y with
    | non => cases ry; exact PySem.EqNone.eq_str_none (fin_bl I q (by simp))
    | bl j => cases ry; exact PySem.EqMixed.eq_str_bool (fin_bl I q (by simp))
    | int j => obtain ⟨t', rfl⟩ := ry; exact PySem.EqMixed.eq_str_int (fin_bl I q (by simp))
    | str j => obtain ⟨t', rfl⟩ := ry; exact eq_str (fin_bl I q dec_str)
    | _ => exact absurd (show false = true from hs) Bool.false_ne_true
  | byt i =>
    obtain ⟨t, rfl⟩ := rx
    cases y with
    | byt j => obtain ⟨t', rfl⟩ := ry; exact PySem.W.eq_bytes (fin_bl I q dec_byt)
    | _ => exact absurd (show false = true from hs) Bool.false_ne_true
  | _ => cases y <;> exact absurd (show false = true from hs) Bool.false_ne_true
theorem op_ne : OpR X (compareOp .NotEq) rNe := by
  intro pins s σ H x y v u Q I rx ry h
  obtain ⟨hs, q⟩ := h
  cases x with
  | non =>
    cases rx
    cases y with
    | non => cases ry; exact PySem.EqNone.ne_none_none (fin_bl I q (by simp))
    | bl j => cases ry; exact PySem.EqNone.ne_none_bool (fin_bl I q (by simp))
    | int j => obtain ⟨t', rfl⟩ := ry; exact PySem.EqNone.ne_none_int (fin_bl I q (by simp))
    | str j => obtain ⟨t', rfl⟩ := ry; exact PySem.EqNone.ne_none_str (fin_bl I q (by simp))
    | _ => exact absurd (show false = true from hs) Bool.false_ne_true
  | bl i =>
    cases rx
    cases y with
    | non => cases ry; exact PySem.EqNone.ne_bool_none (fin_bl I q (by simp))
    | bl j => cases ry; exact ne_bool (fin_bl I q (congrArg not dec_bl))
    | str j => obtain ⟨t', rfl⟩ := ry; exact PySem.EqMixed.ne_bool_str (fin_bl I q (by simp))
    | _ => exact absurd (show false = true from hs) Bool.false_ne_true
  | int i =>
    obtain ⟨t, rfl⟩ := rx
    cases y with
    | non => cases ry; exact PySem.EqNone.ne_int_none (fin_bl I q (by simp))
    | int j => obtain ⟨t', rfl⟩ := ry; exact ne_int (fin_bl I q (congrArg not dec_int))
    | str j => obtain ⟨t', rfl⟩ := ry; exact PySem.EqMixed.ne_int_str (fin_bl I q (by simp))
    | _ => exact absurd (show false = true from hs) Bool.false_ne_true
  | str i =>
    obtain ⟨t, rfl⟩ := rx
    cases y with
    | non => cases ry; exact PySem.EqNone.ne_str_none (fin_bl I q (by simp))
    | bl j => cases ry; exact PySem.EqMixed.ne_str_bool (fin_bl I q (by simp))
    | int j => obtain ⟨t', rfl⟩ := ry; exact PySem.EqMixed.ne_str_int (fin_bl I q (by simp))
    | str j => obtain ⟨t', rfl⟩ := ry; exact ne_str (fin_bl I q (congrArg not dec_str))
    | _ => exact absurd (show false = true from hs) Bool.false_ne_true
  | byt i =>
    obtain ⟨t, rfl⟩ := rx
    cases y with
    | byt j => obtain ⟨t', rfl⟩ := ry; exact PySem.W.ne_bytes (fin_bl I q (congrArg not dec_byt))
    | _ => exact absurd (show false = true from hs) Bool.false_ne_true
  | _ => cases y <;> exact absurd (show false = true from hs) Bool.false_ne_true

theorem op_lt : OpR X (compareOp .Lt) (rI0 fun i j => .bl (decide (i < j))) := opB0 fun _ _ _ _ _ _ _ q => lt_int q
theorem op_gt : OpR X (compareOp .Gt) (rI0 fun i j => .bl (decide (j < i))) := opB0 fun _ _ _ _ _ _ _ q => gt_int q
theorem op_isN : OpR X (compareOp .Is) (fun x y H Q => y = .non ∧ Q (.bl (decide (x = .non))) H) := by
  intro pins s σ H x y v u Q I rx ry h
  obtain ⟨rfl, q⟩ := h
  cases ry
  refine is_none_gen (fin_bl I q ?_)
  cases x <;> first
    | (cases rx; rfl)
    | (obtain ⟨t, rfl⟩ := rx; rfl)
theorem op_notN : OpR X (compareOp .IsNot) (fun x y H Q => y = .non ∧ Q (.bl (!decide (x = .non))) H) := by
  intro pins s σ H x y v u Q I rx ry h
  obtain ⟨rfl, q⟩ := h
  cases ry
  refine isnot_none_gen (fin_bl I q ?_)
  cases x <;> first
    | (cases rx; rfl)
    | (obtain ⟨t, rfl⟩ := rx; rfl)

theorem nomark (b : Expr) {op : CmpOp} (h : op ≠ .In := by decide) (h2 : op ≠ .NotIn := by decide) : behindInMarks op b = false := by
  have e1 : (op == CmpOp.In) = false := by cases op <;> first | rfl | exact absurd rfl h
  have e2 : (op == CmpOp.NotIn) = false := by cases op <;> first | rfl | exact absurd rfl h2
  cases b <;> simp [behindInMarks, e1, e2]
theorem pe_cmpR {op : CmpOp} {r : R2} (ho : OpR X (compareOp op) r) (ha : PE X a ta) (hb : PE X b tb) (hm : behindInMarks op b = false) : PE X (.Compare a [op] [b] pos) (tOp r ta tb) := by
  intro pins s σ H Q I h
  exact wpAny_Compare1 (binT ha hb I h fun v u s2 x y H2 I2 rx ry q => ho pins s2 σ H2 x y v u Q I2 rx ry q) hm
def tTest (t : TE) : TT := fun σ H Q => t σ H fun x H' => ∃ k, x = .bl k ∧ Q k H'
theorem pt_cmpR {op : CmpOp} {r : R2} (ho : OpR X (compareOp op) r) (ha : PE X a ta) (hb : PE X b tb) (hm : behindInMarks op b = false) : PT X (.Compare a [op] [b] pos) (tTest (tOp r ta tb)) := by
  intro pins s σ H Q I h
  refine wpAny_isTrue_Compare1 (thn (ha pins s σ H _ I h) fun v s1 ⟨x, H1, I1, r1, q1⟩ => thn (hb pins s1 σ H1 _ I1 q1) fun u s2 ⟨y, H2, I2, r2, q2⟩ =>
    thn (ho pins s2 σ H2 x y v u _ I2 r1 r2 q2) fun c s3 ⟨z, H3, I3, r3, k, e, q3⟩ => ?_) hm
  subst e
  cases r3
  exact wpAny_truthy_bool ⟨H3, I3, q3⟩
/-! ### truth -/
theorem line63 : (sizeLine : Nat) < 2 ^ 63 := by rw [sizeLine_eq]; decide
/-! ### strs and bytes -/
theorem op_add_str : OpR X (binaryOp .Add) (fun x y H Q => ∃ i j, x = .str i ∧ y = .str j ∧ i.length + j.length ≤ sizeLine ∧ Q (.str (i ++ j)) H) := by
  intro pins s σ H x y v u Q I rx ry h
  obtain ⟨i, j, rfl, rfl, hz, q⟩ := h
  obtain ⟨t, rfl⟩ := rx
  obtain ⟨t', rfl⟩ := ry
  exact add_str (fun t' tk => ⟨.str (i ++ j), H, I.tok _, ⟨_, rfl⟩, q⟩) hz
/-! ### scalar builtins, by CallR -/
theorem vals1 {x : V} {us : List Value} (r : Vals [x] us) : ∃ u, us = [u] ∧ RelV x u := by
  cases r with
  | cons r1 r2 => cases r2; exact ⟨_, rfl, r1⟩
theorem vals2 {x y : V} {us : List Value} (r : Vals [x, y] us) : ∃ u w', us = [u, w'] ∧ RelV x u ∧ RelV y w' := by
  cases r with
  | cons r1 r2 =>
    cases r2 with
    | cons r3 r4 => cases r4; exact ⟨_, _, rfl, r1, r3⟩
theorem call_min2 (hc : X.calm = true) : CallR X (.builtin "min") (fun xs H Q => ∃ i j, xs = [.int i, .int j] ∧ Q (.int (if j < i then j else i)) H) := by
  intro pins s σ H xs us Q I r h
  obtain ⟨i, j, rfl, q⟩ := h
  obtain ⟨u, w', rfl, ⟨t, rfl⟩, ⟨t', rfl⟩⟩ := vals2 r
  refine min_two_ints (I.ok.hd hc) fun h' tk k => ⟨_, H, I.kept k, ?_, q⟩
  by_cases hj : j < i
  · rw [if_pos hj, if_pos hj]; exact ⟨_, rfl⟩
  · rw [if_neg hj, if_neg hj]; exact ⟨_, rfl⟩
end
end L2

namespace L2
open PySem PySem.Spec PyProof.Rows

/-! ### an instance, its attributes a map -/
section
variable {prog : Program} {w : World} {A : Around} {E : Value → Shared → Prop} {s : Shared} {K : PySem.W.Frag} {x dx C f : Addr} {mA : Str → Option Value} {name : Str} {v : Value}

end

/-! ### the attributes as a list of pairs -/
def putF (f : Str) (v : V) : List (Str × V) → List (Str × V)
  | [] => [(f, v)]
  | (g, x) :: r => if g = f then (g, v) :: r else (g, x) :: putF f v r
section
variable {P : Program} {w : World} {H H' : Hp} {h h' : Heap} {a C dx : Addr} {fs fs' : List (Str × V)}
end

/-! ### what of the text a class must have -/
structure Cls (K : PySem.W.Frag) (C : Addr) : Prop where
  pg : PySem.W.plainGet K C Str.empty = true
  hd : PySem.W.hasDictIn K C = true
  po : PySem.W.plainOver K C = true
  sa : PySem.W.findIn K (.ref C) "__setattr__" = some (some (.builtin "object.__setattr__"))
section
variable {X : Cx} {pins : List (Addr × Obj)} {σ : St} {H : Hp} {s : Shared} {a C dx : Addr} {fs : List (Str × V)} {f : Str} {v : V} {A : Around} {E : Value → Shared → Prop}

end

/-! ### readings and rules -/
section
variable {X : Cx} {o e value : Expr} {f : Str} {pos pos' tpos : Pos} {ta tv : TE}
end

/-! ### isinstance -/
section
variable {X : Cx} {pins : List (Addr × Obj)} {σ : St} {H : Hp} {s : Shared} {A : Around} {E : Value → Shared → Prop} {Q : Value → Shared → Prop} {c : Value} {b : Bool}
inductive TyOf (K : PySem.W.Frag) (H : Hp) : V → Value → Prop where
  | non : TyOf K H .non (.type "NoneType")
  | bl (x : Bool) : TyOf K H (.bl x) (.type "bool")
  | int (i : Int) : TyOf K H (.int i) (.type "int")
  | str (x : Str) : TyOf K H (.str x) (.type "str")
  | flt (x : UInt64) : TyOf K H (.flt x) (.type "float")
  | lst {a : Addr} {xs : List V} (e : H a = some (.lst xs)) : TyOf K H (.ref a) (.type "list")
  | frz {a : Addr} {o : Obj} {xs : List V} (e : H a = some (.frz o (.lst xs))) : TyOf K H (.ref a) (.type "list")
  | tup {a : Addr} {xs : List V} (e : H a = some (.tup xs)) : TyOf K H (.ref a) (.type "tuple")
  | dK {a : Addr} {kvs : List (Key × V)} (e : H a = some (.dK kvs)) : TyOf K H (.ref a) (.type "dict")
  | dT {a : Addr} {kvs : List (List Key × V)} (e : H a = some (.dT kvs)) : TyOf K H (.ref a) (.type "dict")
  | ins {a C dx : Addr} {fs : List (Str × V)} (e : H a = some (.ins C dx fs)) (cl : Cls K C) (ha : PySem.W.findIn K (.ref C) "__class__" = some (some (.builtin "object.__class__")))
      (hn : PySem.W.specialIn K (.builtin "object.__class__") "__get__" = some (some (.builtin "getset_descriptor.__get__"))) (htk : PySem.W.takesIn K (.builtin "object.__class__") = some true)
      (hm : PySem.W.mroIn K C (.type "object") = some true) : TyOf K H (.ref a) (.ref C)
end
end L2

namespace L2
open PySem PySem.Spec PyProof.Rows

/-! ### room -/
structure Room (k : Nat) (A : Around) : Prop where
  hd : A.handled = none
  dp : A.depth + 3 * k + 5 < recursionLimit
  un : A.units + 16 * k + 200 < cLine
theorem Room.mono {j k : Nat} {A : Around} (r : Room k A) (h : j ≤ k) : Room j A := ⟨r.hd, by have := r.dp; omega, by have := r.un; omega⟩
theorem Room.deeper {k : Nat} {A : Around} (r : Room (k + 1) A) (env : Env) : Room k (A.deeper env) :=
  ⟨r.hd, by have := r.dp; show A.depth + 1 + 3 * k + 5 < _; omega, by have := r.un; show A.units + 3 + 16 * k + 200 < _; omega⟩
theorem Room.depth {k : Nat} {A : Around} (r : Room k A) : A.depth < recursionLimit := by have := r.dp; omega
theorem Room.units {k : Nat} {A : Around} (r : Room k A) : A.units + 64 < cLine := by have := r.un; omega
/-! ### argument lists and displays -/
def tNil : TA := fun _ H Q => Q [] H
def tCons (ta : TE) (tr : TA) : TA := fun σ H Q => ta σ H fun x H1 => tr σ H1 fun xs H2 => Q (x :: xs) H2
section
variable {X : Cx} {e : Expr} {es : List Expr} {te : TE} {t : TA} {pos : Pos}
theorem pa_nil : PA X [] tNil := fun _ _ _ _ H Q I h => Calls.spliced_nil ⟨[], H, I, .nil, h⟩
theorem pa_cons (ha : PE X e te) (hr : PA X es t) (hs : starEach (e :: es) X.env = (false, eval e X.env) :: starEach es X.env := by rfl) : PA X (e :: es) (tCons te t) := by
  intro pos pins s σ H Q I h
  rw [hs]
  show wpAny _ _ (spliced ((false, eval e X.env) :: backTo pos (starEach es X.env))) _ _ s
  refine Calls.spliced_cons (thn (ha pins s σ H _ I h) fun u s1 ⟨x, H1, I1, r1, q1⟩ => ?_)
  exact thn (hr pos pins s1 σ H1 _ I1 q1) fun us s2 ⟨xs, H2, I2, r2, q2⟩ => ⟨x :: xs, H2, I2, .cons r1 r2, q2⟩

def tTup (t : TA) : TE := fun σ H Q => t σ H fun xs H1 => xs.length ≤ sizeLine ∧ ∀ p, H1 p = none → Q (.ref p) (upd H1 p (.tup xs))
def tLst (t : TA) : TE := fun σ H Q => t σ H fun xs H1 => xs.length ≤ sizeLine ∧ ∀ p, H1 p = none → Q (.ref p) (upd H1 p (.lst xs))
theorem pe_tup {x1} (h : PA X es t) : PE X (.Tuple es x1 pos) (tTup t) := by
  intro pins s σ H Q I hq
  refine wpAny_Tuple_spliced (thn (h pos pins s σ H _ I hq) fun us s1 ⟨xs, H1, I1, r, z, q⟩ => ⟨by rw [← r.length]; exact z, ?_⟩)
  have hf : H1 s1.heap.objs.size = none := I1.hok.fresh (Nat.le_refl _)
  refine ⟨.ref s1.heap.objs.size, upd H1 s1.heap.objs.size (.tup xs), I1.laid (t' := s1.toks) (fun b u e => Heap.get?_push_of_some _ e) (Nat.le_refl _) ?_, rfl, q _ hf⟩
  exact ⟨z, us, r, ⟨_, Heap.get?_push_size _ rfl, rfl, _, rfl⟩⟩
theorem pe_lst (h : PA X es t) : PE X (.List es pos) (tLst t) := by
  intro pins s σ H Q I hq
  refine wpAny_List_spliced (thn (h pos pins s σ H _ I hq) fun us s1 ⟨xs, H1, I1, r, z, q⟩ => ⟨by rw [← r.length]; exact z, ?_⟩)
  have hf : H1 s1.heap.objs.size = none := I1.hok.fresh (Nat.le_refl _)
  refine ⟨.ref s1.heap.objs.size, upd H1 s1.heap.objs.size (.lst xs), I1.laid (t' := s1.toks) (fun b u e => Heap.get?_push_of_some _ e) (Nat.le_refl _) ?_, rfl, q _ hf⟩
  exact ⟨z, us, 0, r, Heap.get?_push_size _ rfl⟩
end

/-! ### what a def promises -/
abbrev Sp := List V → Hp → VK → XK → Prop
abbrev CXT := List Env → Hp → Shared → XK → Value → Shared → Prop

structure Env0 (P : Program) (w : World) (K : PySem.W.Frag) (mg : Str → Option Value) (base : Heap) (A : Around) (outer : List Env) (s : Shared) (H : Hp) : Prop where
  frames : A.frames = some outer
  mod : Mod K mg base
  bs : ∀ b o, base.get? b = some o → s.heap.get? b = some o ∧ H b = none
  bsz : base.objs.size ≤ s.heap.objs.size
  funs : s.heap.FunFrames base outer
  frf : ∀ b ∈ frs outer, H b = none
  hok : HOk P w H s.heap
  bare : AllBare s.gens
def CE (outer : List Env) (P : Program) (w : World) (H : Hp) (s : Shared) (Q : VK) (u : Value) (s' : Shared) : Prop :=
  ∃ v H', s'.os = s.os ∧ AllBare s'.gens ∧ Un (frs outer) [] H H' s.heap s'.heap ∧ HOk P w H' s'.heap ∧ RelV v u ∧ Q v H'
def CR (CX : CXT) (outer : List Env) (P : Program) (w : World) (H : Hp) (s : Shared) (Q : VK) (E : XK) (r : Result) (s' : Shared) : Prop :=
  match r with
  | .ok (.ret u) => CE outer P w H s Q u s'
  | .ok _ => False
  | .error e => CX outer H s E e s'
structure FnOk (P : Program) (w : World) (K : PySem.W.Frag) (mg : Str → Option Value) (base : Heap) (CX : CXT) (k : Nat) (f : Addr) (fd : FuncData) (ps : List Str) (sp : Sp) : Prop where
  len : ∀ vs H Q E, sp vs H Q E → vs.length = ps.length
  run : ∀ (A : Around) (outer : List Env) (s : Shared) (H : Hp) (args : Args) (us : List Value) (vs : List V) (Q : VK) (E : XK), Room k A → Env0 P w K mg base A outer s H → BindsTo s fd args (ps.zip us) → Vals vs us → sp vs H Q E →
    codeAny (model P w) A (.call (.ref f) args) (CR CX outer P w H s Q E) s
section
variable {X : Cx} {pins : List (Addr × Obj)} {σ : St} {H : Hp} {s s' : Shared}
theorem Inv.env0 (I : Inv X pins σ H s) : Env0 X.prog X.w X.K X.mg X.base X.A X.stack s H :=
  ⟨I.ok.frames, I.ok.mod, I.bs, Nat.le_trans I.ok.bsz I.sz, I.stack, I.stkFree, I.hok, I.bare⟩
theorem Inv.after {Q : VK} {u : Value} (I : Inv X pins σ H s) (h : CE X.stack X.prog X.w H s Q u s') : EP X pins σ Q u s' := by
  obtain ⟨v, H', os, bare, un, hok, r, q⟩ := h
  obtain ⟨hh, g, d, t, os'⟩ := s'
  obtain rfl : os' = s.os := os
  exact ⟨v, H', I.call (h' := hh) (g' := g) (d' := d) (t' := t) (ch := []) un hok bare (fun b z => absurd z (by simp)), r, q⟩
end

/-! ### calls -/
def Binds (K : PySem.W.Frag) (fd : FuncData) (ps : List Str) (ds : List Value) : Prop :=
  ∀ (s : Shared) (us : List Value), K.In s.heap → (us ++ ds).length = ps.length → BindsTo s fd ⟨us, []⟩ (ps.zip (us ++ ds))
theorem Binds.all {K : PySem.W.Frag} {fd : FuncData} {ps : List Str} (h : ∀ us : List Value, us.length = ps.length → bindArgs fd ⟨us, []⟩ = pure (ps.zip us)) : Binds K fd ps [] := fun s us _ hl => by
  rw [List.append_nil] at hl ⊢
  exact .of_eq (h us hl)

def Passes (CX : CXT) (X : Cx) (E : XK) : Prop := ∀ (pins : List (Addr × Obj)) (σ : St) (H : Hp) (s : Shared) (e : Value) (s' : Shared), Inv X pins σ H s → CX X.stack H s E e s' → X.xe e s'

section
variable {X : Cx} {CX : CXT} {k : Nat} {f C : Addr} {fd : FuncData} {ps : List Str} {sp : Sp} {dvs : List V} {ds : List Value} {E : XK} {x m : Str} {p pos apos : Pos} {e o : Expr} {es : List Expr} {ta : TE} {t : TA}

theorem run_fn {pins : List (Addr × Obj)} {σ : St} {H : Hp} {s : Shared} {Q : VK} {us : List Value} {vs : List V} (F : FnOk X.prog X.w X.K X.mg X.base CX k f fd ps sp) (hr : Room k X.A) (hb : Binds X.K fd ps ds) (hd : Vals dvs ds) (hx : Passes CX X E)
    (I : Inv X pins σ H s) (r : Vals vs us) (h : sp (vs ++ dvs) H Q E) : wpAny (model X.prog X.w) X.A (call (.ref f) us) (EP X pins σ Q) X.xe s := by
  have r2 : Vals (vs ++ dvs) (us ++ ds) := r.append hd
  have hl : (us ++ ds).length = ps.length := by rw [← r2.length]; exact F.len _ _ _ _ h
  refine wpAny_call (codeAny_mono (F.run X.A X.stack s H ⟨us, []⟩ (us ++ ds) (vs ++ dvs) Q E hr I.env0 (hb s us I.kIn hl) r2 h) fun r s' hq => ?_)
  cases r with
  | error e => exact hx pins σ H s e s' I hq
  | ok fl =>
    cases fl with
    | ret u => exact I.after hq
    | next => exact False.elim hq
    | brk => exact False.elim hq
    | cont => exact False.elim hq

structure Mk (K : PySem.W.Frag) (C f : Addr) : Prop where
  makes : PySem.W.makesIn K C = true
  init : PySem.W.findIn K (.ref C) "__init__" = some (some (.ref f))
  fn : PySem.W.isFn K (.ref f) = true
  kp : PySem.W.keepIn K (.ref C) = true

end

/-! ### keywords -/
section
variable {X : Cx} {CX : CXT} {k : Nat} {f C : Addr} {fd : FuncData} {ps ks : List Str} {sp : Sp} {E : XK} {x m : Str} {p pos apos kpos : Pos} {e o : Expr} {es : List Expr} {kws : List Keyword} {te ta : TE} {t tk : TA} {nm : Option Str}
variable {g : List Value → List Value → List Value} {gV : List V → List V → List V}
end

/-! ### a def's body keeps its promise -/
structure FnScope (N P : List Str) (sc : Scope) : Prop where
  kind : sc.kind = .function
  co : sc.isCoroutine = false
  gen : sc.isGenerator = false
  nd : N.Nodup
  pre : N.take P.length = P
  par : ∀ x ∈ P, sc.names.lookup x = some .local ∨ sc.names.lookup x = some .cell
  nofree : ∀ y ∈ sc.names, y.2 ≠ .free

theorem bindL_out {kindOf : Str → Option NameKind} {x : Str} : ∀ {binds : List (Str × Value)} {m : Str → Option Value}, (∀ v, (x, v) ∉ binds) → bindL kindOf binds m x = m x
  | [], _, _ => rfl
  | (n, v) :: r, m, h => by
    unfold bindL
    rw [bindL_out fun w hw => h w (List.mem_cons_of_mem _ hw)]
    split
    · have : x ≠ n := by rintro rfl; exact h v List.mem_cons_self
      simp [this]
    · rfl
theorem bindC_out {kindOf : Str → Option NameKind} {x : Str} : ∀ {binds : List (Str × Value)} {m : Str → Option Value}, (∀ v, (x, v) ∉ binds) → bindC kindOf binds m x = m x
  | [], _, _ => rfl
  | (n, v) :: r, m, h => by
    unfold bindC
    rw [bindC_out fun w hw => h w (List.mem_cons_of_mem _ hw)]
    split
    · rfl
    · have : x ≠ n := by rintro rfl; exact h v List.mem_cons_self
      simp [this]
theorem bindL_get {kindOf : Str → Option NameKind} {x : Str} {v : Value} : ∀ {P : List Str} {vs : List Value} {i : Nat} {m : Str → Option Value}, P.Nodup → P[i]? = some x → vs[i]? = some v → kindOf x = some .local →
    bindL kindOf (P.zip vs) m x = some v
  | [], _, _, _, _, h, _, _ => by simp at h
  | _ :: _, [], _, _, _, _, h, _ => by simp at h
  | p :: P, w :: vs, 0, m, nd, h1, h2, hk => by
    simp at h1 h2; subst h1; subst h2
    show bindL kindOf ((p, w) :: P.zip vs) m p = _
    unfold bindL
    rw [bindL_out fun v hv => (List.nodup_cons.mp nd).1 (List.of_mem_zip hv).1, if_pos hk]
    simp
  | p :: P, w :: vs, i + 1, m, nd, h1, h2, hk => by
    show bindL kindOf ((p, w) :: P.zip vs) m x = _
    unfold bindL
    exact bindL_get (i := i) (List.nodup_cons.mp nd).2 (by simpa using h1) (by simpa using h2) hk
theorem bindC_get {kindOf : Str → Option NameKind} {x : Str} {v : Value} : ∀ {P : List Str} {vs : List Value} {i : Nat} {m : Str → Option Value}, P.Nodup → P[i]? = some x → vs[i]? = some v → kindOf x ≠ some .local →
    bindC kindOf (P.zip vs) m x = some v
  | [], _, _, _, _, h, _, _ => by simp at h
  | _ :: _, [], _, _, _, _, h, _ => by simp at h
  | p :: P, w :: vs, 0, m, nd, h1, h2, hk => by
    simp at h1 h2; subst h1; subst h2
    show bindC kindOf ((p, w) :: P.zip vs) m p = _
    unfold bindC
    rw [bindC_out fun v hv => (List.nodup_cons.mp nd).1 (List.of_mem_zip hv).1, if_neg hk]
    simp
  | p :: P, w :: vs, i + 1, m, nd, h1, h2, hk => by
    show bindC kindOf ((p, w) :: P.zip vs) m x = _
    unfold bindC
    exact bindC_get (i := i) (List.nodup_cons.mp nd).2 (by simpa using h1) (by simpa using h2) hk

def start (N : List Str) (vs : List V) : St := vs.map some ++ List.replicate (N.length - vs.length) none

def cxOf (CX : CXT) (P : Program) (w : World) (K : PySem.W.Frag) (mg : Str → Option Value) (base : Heap) (N : List Str) (qual : Str) (scope : Scope) (f : Addr) (cd : Value) (A : Around) (outer : List Env) (s : Shared) (H : Hp) (E : XK) : Cx where
  prog := P
  w := w
  K := K
  mg := mg
  base := base
  A := A.deeper (envOfC qual scope s.heap.objs.size f cd)
  N := N
  s₀ := s
  H₀ := H
  env := envOfC qual scope s.heap.objs.size f cd
  outer := outer
  stack := envOfC qual scope s.heap.objs.size f cd :: outer
  ex := []
  calm := true
  fn := fun _ => true
  pn := []
  xe := fun e s' => wpAny (model P w) (A.deeper (envOfC qual scope s.heap.objs.size f cd)) (leaving (envOfC qual scope s.heap.objs.size f cd) e) (fun _ s'' => CX outer H s E e s'') (fun e' s'' => CX outer H s E e' s'') s'

theorem cell_has {sc : Scope} {n : Nat} {x : Str} (h : sc.names.lookup x = some .cell) : ∃ c, (cellsFrom n sc.names []).lookup x = some c := by
  have q := PySem.W.cellsFrom_some sc.names n [] (.inl h)
  exact Option.isSome_iff_exists.mp q

theorem inv_start {CX : CXT} {P : Program} {w : World} {K : PySem.W.Frag} {mg : Str → Option Value} {base : Heap} {N ps : List Str} {qual : Str} {scope : Scope} {f : Addr} {cd : Value} {A : Around} {outer : List Env} {s s1 : Shared} {H : Hp} {E : XK} {us : List Value} {vs : List V}
    (S : FnScope N ps scope) (hd : A.handled = none) (e0 : Env0 P w K mg base A outer s H) (hl : vs.length = ps.length) (r : Vals vs us)
    (x : InCallC s s.heap.objs.size (bindL (envOfC qual scope s.heap.objs.size f cd).kindOf (ps.zip us) fun _ => none) (cellsFrom (s.heap.objs.size + 1) scope.names []) (bindC (envOfC qual scope s.heap.objs.size f cd).kindOf (ps.zip us) fun _ => none) s1) :
    Inv (cxOf CX P w K mg base N qual scope f cd A outer s H E) [] (start N vs) H s1 := by
  have hpl : ps.length ≤ N.length := by have := congrArg List.length S.pre; rw [List.length_take] at this; omega
  obtain ⟨h1, tk, rfl, hk⟩ := x.done
  have noA : ∀ b : Addr, b ∉ (cxOf CX P w K mg base N qual scope f cd A outer s H E).ex := fun b z => absurd (show b ∈ ([] : List Addr) from z) (by simp)
  refine ⟨⟨e0.mod, S.kind, rfl, rfl, Nat.le_refl _, fun y z c h1 h2 => ?_, fun y hy => ?_, fun y c _ h => ?_, fun _ => hd, Around.frames_deeper e0.frames, .inr ⟨rfl, rfl⟩, fun b z => absurd z (noA b), e0.bs, e0.bsz, fun b _ _ => noA b, fun b z => absurd z (noA b), e0.funs, e0.frf⟩,
    rfl, e0.bare, Un.kept hk, ⟨_, x.toInCall.ns, fun i y v h1 h2 h3 => ?_⟩, fun y c h => ⟨_, x.cell y c h⟩, e0.hok.fresh (Nat.le_refl _), fun y c h => ?_, fun p hp => absurd (show p ∈ ([] : List (Addr × Obj)) from hp) (by simp), e0.hok.kept hk, ?_⟩
  · exact name_of_addr x.apart (PySem.mem_of_lookup h1) (PySem.mem_of_lookup h2)
  · have hy : scope.names.lookup y = some .cell ∨ scope.names.lookup y = some .free := hy
    rcases hy with hy | hy
    · exact cell_has hy
    · exact absurd rfl (S.nofree _ (PySem.mem_of_lookup hy))
  · exact Nat.le_of_lt (x.above y c (PySem.mem_of_lookup h))
  · have hi : i < vs.length := by
      unfold start at h2
      by_cases hi : i < vs.length
      · exact hi
      · rw [List.getElem?_append_right (by simpa using hi)] at h2
        rw [List.getElem?_replicate] at h2
        split at h2 <;> cases h2
    have ha : vs[i]? = some v := by
      unfold start at h2
      rw [List.getElem?_append_left (by simpa using hi), List.getElem?_map] at h2
      cases e : vs[i]? with
      | none => rw [e] at h2; cases h2
      | some a => rw [e] at h2; cases h2; rfl
    obtain ⟨u, hu, rv⟩ := r.get ha
    have hp : ps[i]? = some y := by
      rw [← S.pre, List.getElem?_take_of_lt (by omega)]; exact h1
    have ndP : ps.Nodup := by rw [← S.pre]; exact S.nd.sublist (List.take_sublist _ _)
    refine ⟨u, rv, ?_⟩
    rcases S.par y (List.mem_of_getElem? hp) with k | k
    · exact .inl ⟨k, bindL_get ndP hp hu k⟩
    · obtain ⟨c, e⟩ := cell_has (n := s.heap.objs.size + 1) k
      refine .inr ⟨.inl k, c, e, ?_⟩
      have q := x.cell y c e
      rw [bindC_get ndP hp hu (by show scope.names.lookup y ≠ _; rw [k]; decide)] at q
      exact q
  · exact e0.hok.fresh (Nat.le_of_lt (x.above y c (PySem.mem_of_lookup h)))
  · unfold start
    show _ = N.length
    rw [List.length_append, List.length_map, List.length_replicate]
    omega

theorem fn_of {CX : CXT} {P : Program} {w : World} {K : PySem.W.Frag} {mg : Str → Option Value} {base : Heap} {k : Nat} {f : Addr} {name qual : Str} {params : Arguments} {body : List Stmt} {scope : Scope} {dV kV doc pm cdv ct oc : Value} {an od : Option Addr}
    {osl : Array (Option Value)} {N ps : List Str} {sp : Sp} (lk : K.lookup f = some ⟨oc, od, .func (PySem.W.fnOf name qual params body scope dV kV doc pm an cdv ct), osl⟩) (hcd : PySem.W.codeIn K cdv qual = true) (S : FnScope N ps scope)
    (len : ∀ vs H Q E, sp vs H Q E → vs.length = ps.length)
    (hbody : ∀ (A : Around) (outer : List Env) (s : Shared) (H : Hp) (vs : List V) (Q : VK) (E : XK), Room k (A.deeper (envOfC qual scope s.heap.objs.size f cdv)) → sp vs H Q E →
      ∃ t, PSs (cxOf CX P w K mg base N qual scope f cdv A outer s H E) body t ∧ t { nx := fun _ H' => Q .non H', rt := Q } (start N vs) H) :
    FnOk P w K mg base CX (k + 1) f (PySem.W.fnOf name qual params body scope dV kV doc pm an cdv ct) ps sp := by
  refine ⟨len, fun A outer s H args us vs Q E hr e0 hb r hsp => ?_⟩
  have hl := len _ _ _ _ hsp
  have KX : K.In s.heap := e0.mod.kin.keeps fun b o e => (e0.bs b o e).1
  have lim : s.heap.NoLimit := e0.mod.nolimit.keeps fun b o e => (e0.bs b o e).1
  have hkind : ∀ y ∈ ps.zip us, scope.names.lookup y.1 = some .local ∨ (scope.names.lookup y.1 = some .cell ∧ ((cellsFrom (s.heap.objs.size + 1) scope.names []).lookup y.1).isSome = true) := fun ⟨n, v⟩ hy => by
    rcases S.par n (List.of_mem_zip hy).1 with q | q
    · exact .inl q
    · exact .inr ⟨q, PySem.W.cellsFrom_some _ _ _ (.inl q)⟩
  refine codeAny_call_function hr.depth (KX _ _ lk) rfl S.co S.gen rfl (PySem.W.codeRec_of KX hcd) (hb _ _ _ _ ?_)
  refine wpAny_newFunctionEnv_cells S.kind hkind fun env he s1 x => ?_
  subst he
  refine ⟨lim.keeps x.toInCall.keep, codeAny_func ?_⟩
  obtain ⟨t, ht, hq⟩ := hbody A outer s H vs Q E (hr.deeper _) hsp
  have I : Inv (cxOf CX P w K mg base N qual scope f cdv A outer s H E) [] (start N vs) H s1 := inv_start S hr.hd e0 hl r x
  refine wpAny_mono (ht [] s1 (start N vs) H _ I hq) (fun fl s' hs => ?_) fun e s' hs => hs
  have fin : ∀ {σ' : St} {H' : Hp} {v : V} {u : Value}, Inv (cxOf CX P w K mg base N qual scope f cdv A outer s H E) [] σ' H' s' → RelV v u → Q v H' → CE outer P w H s Q u s' :=
    fun {σ' H' v u} J rv q => ⟨v, H', J.os, J.bare, J.base, J.hok, rv, q⟩
  cases fl with
  | ret u =>
    obtain ⟨v, σ', H', J, rv, q⟩ := hs
    exact fin J rv q
  | next =>
    obtain ⟨σ', H', J, q⟩ := hs
    exact fin (v := V.non) (u := Value.none) J rfl q
  | brk =>
    obtain ⟨_, _, _, q⟩ := hs
    exact False.elim q
  | cont =>
    obtain ⟨_, _, _, q⟩ := hs
    exact False.elim q
end L2

namespace L2
open PySem PySem.Spec PyProof.Rows
section
variable {X : Cx} {x : Str} {p pos : Pos} {e : Expr} {es : List Expr} {t : TA} {id T : String} {r : List V → Hp → VK → Prop}

def tCB (r : List V → Hp → VK → Prop) (t : TA) : TE := fun σ H Q => t σ H fun vs H1 => r vs H1 Q
theorem pe_callB (hc : CallR X (.builtin id) r) (hg : Gl X x) (hm : X.mg x = none) (hv : bootBuiltins x = some (.builtin id)) (ha : PA X (e :: es) t) (hn : x ≠ "__name__" := by decide) (hdb : (x == ("__debug__" : Str)) = false := by decide)
    (he : starEach (e :: es) X.env = (false, eval e X.env) :: starEach es X.env := by rfl) (hpl : (backTo pos (starEach es X.env)).any (·.1) = false := by rfl) : PE X (.Call (.Name x p) (e :: es) [] pos) (tCB r t) := by
  intro pins s σ H Q I h
  refine wpAny_Call_Name_kw (ld_blt I hg hm hv ?_ hn hdb)
  exact PyProof.Rows.callWith_builtin1 (thn (ha pos pins s σ H _ I h) fun us s1 ⟨vs, H1, I1, r1, q1⟩ => hc pins s1 σ H1 vs us Q I1 r1 q1) he hpl
theorem pe_callTy (hc : CallR X (.type T) r) (hg : Gl X x) (hm : X.mg x = none) (hv : bootBuiltins x = some (.type T)) (ha : PA X (e :: es) t) (hn : x ≠ "__name__" := by decide) (hdb : (x == ("__debug__" : Str)) = false := by decide)
    (he : starEach (e :: es) X.env = (false, eval e X.env) :: starEach es X.env := by rfl) (hpl : (backTo pos (starEach es X.env)).any (·.1) = false := by rfl) : PE X (.Call (.Name x p) (e :: es) [] pos) (tCB r t) := by
  intro pins s σ H Q I h
  refine wpAny_Call_Name_kw (ld_blt I hg hm hv ?_ hn hdb)
  exact PyProof.Rows.callWith_type1 (thn (ha pos pins s σ H _ I h) fun us s1 ⟨vs, H1, I1, r1, q1⟩ => hc pins s1 σ H1 vs us Q I1 r1 q1) he hpl
end
end L2

namespace HT
open PySem PyProof.Rows

def lexLt : List Int → List Int → Bool
  | [], [] => false
  | [], _ :: _ => true
  | _ :: _, [] => false
  | x :: xs, y :: ys => if x = y then lexLt xs ys else decide (x < y)
section
open PySem.SeqAt
open PySem.AutoSeq1 (wpAny_loadPart')
open PySem.MeetsSeq PySem.MeetsSeq2 PySem.MeetsSeq3

end

section
variable {prog : Program} {w : World} {A : Around} {E : Value → Shared → Prop} {s : Shared}

/-! ### t[a:b], not the whole -/
def sIx (n d : Nat) : Option Int → Nat
  | none => d
  | some v => if v < 0 then (v + (n : Int)).toNat else min v.toNat n
end
end HT

namespace L2
open PySem PySem.Spec PyProof.Rows

/-! ### the parts of a slice -/
abbrev TO := St → Hp → (Option Int → Hp → Prop) → Prop
def PO (X : Cx) (e : Option Expr) (t : TO) : Prop :=
  ∀ (pins : List (Addr × Obj)) (s : Shared) (σ : St) (H : Hp) (Q : Option Int → Hp → Prop), Inv X pins σ H s → t σ H Q →
    wpAny (model X.prog X.w) X.A (evalPart e X.env) (fun u s' => ∃ o H', Inv X pins σ H' s' ∧ IsPart u o ∧ Q o H') X.xe s
def tNoPart : TO := fun _ H Q => Q none H
def tPart (t : TE) : TO := fun σ H Q => t σ H fun x H1 => ∃ i, x = .int i ∧ Q (some i) H1

section
variable {X : Cx} {e : Expr} {te : TE} {lo hi : Option Expr} {tl th : TO} {pos p2 : Pos}

theorem po_none : PO X none tNoPart := by
  intro pins s σ H Q I h
  rw [evalPart_none]
  exact wpAny_pure ⟨none, H, I, .none, h⟩
theorem po_some (h : PE X e te) : PO X (some e) (tPart te) := by
  intro pins s σ H Q I hw
  rw [evalPart_some]
  refine thn (h pins s σ H _ I hw) fun u s1 ⟨x, H1, I1, r1, q1⟩ => ?_
  obtain ⟨i, rfl, q⟩ := q1
  obtain ⟨t, rfl⟩ := r1
  exact ⟨some i, H1, I1, .int i t, q⟩

def SlR (X : Cx) (r : V → Option Int → Option Int → Hp → VK → Prop) : Prop :=
  ∀ (pins : List (Addr × Obj)) (s : Shared) (σ : St) (H : Hp) (x : V) (v vl vu : Value) (lo hi : Option Int) (sl : Addr) (Q : VK), Inv X pins σ H s → RelV x v → s.heap.IsSliceOf sl vl vu .none → IsPart vl lo → IsPart vu hi → r x lo hi H Q →
    ∃ T id, typeLookup (.type T) "__getitem__" = pure (some (.builtin id)) ∧ s.TypeIs v T ∧ wpAny (model X.prog X.w) X.A (getItem v (.ref sl)) (EP X pins σ Q) X.xe s
def tSl (r : V → Option Int → Option Int → Hp → VK → Prop) (te : TE) (tl th : TO) : TE := fun σ H Q => te σ H fun x H1 => tl σ H1 fun l H2 => th σ H2 fun u H3 => r x l u H3 Q
theorem pe_slice {r : V → Option Int → Option Int → Hp → VK → Prop} (hr : SlR X r) (he : PE X e te) (hl : PO X lo tl) (hu : PO X hi th) : PE X (.Subscript e (.Slice lo hi none p2) pos) (tSl r te tl th) := by
  intro pins s σ H Q I h
  refine Subscript_ (thn (he pins s σ H _ I h) fun v s1 ⟨x, H1, I1, r1, q1⟩ => ?_)
  refine wpAny_Slice (thn (hl pins s1 σ H1 _ I1 q1) fun vl s2 ⟨l, H2, I2, pl, q2⟩ => thn (hu pins s2 σ H2 _ I2 q2) fun vu s3 ⟨u, H3, I3, pu, q3⟩ => ?_)
  rw [evalPart_none]
  refine wpAny_pure ?_
  have I4 : Inv X pins σ H3 { s3 with heap := s3.heap.push { cls := .type "slice", data := .fields #[vl, vu, .none] } } := I3.kept (t' := s3.toks) fun b ob q => Heap.get?_push_of_some _ q
  obtain ⟨T, id, hT, ht, hg⟩ := hr pins { s3 with heap := s3.heap.push { cls := .type "slice", data := .fields #[vl, vu, .none] } } σ H3 x v vl vu l u s3.heap.objs.size Q I4 r1 (Heap.IsSliceOf.new ..) pl pu q3
  show wpAny (model X.prog X.w) X.A (subscriptTail e (.Slice lo hi none p2) v (.ref s3.heap.objs.size)) (EP X pins σ Q) X.xe { s3 with heap := s3.heap.push { cls := .type "slice", data := .fields #[vl, vu, .none] } }
  exact tail_any (ops := [.ref s3.heap.objs.size, v]) ht hT hg (by with_unfolding_all rfl)

def cutV (xs : List V) (lo hi : Option Int) : List V := (xs.drop (HT.sIx xs.length 0 lo)).take (HT.sIx xs.length xs.length hi - HT.sIx xs.length 0 lo)
theorem cutV_length (xs : List V) (lo hi : Option Int) : (cutV xs lo hi).length ≤ xs.length := by
  unfold cutV
  rw [List.length_take, List.length_drop]
  omega
/-! ### t < u, t + u -/
end
end L2

namespace L2
open PySem PySem.Spec PyProof.Rows

/-! ### places -/
def ixN (n : Nat) (i : Int) : Option Nat := if 0 ≤ i then (if i < n then some i.toNat else none) else if -(n : Int) ≤ i then some (i + n).toNat else none
def atI {α : Type} (xs : List α) (i : Int) : Option α := (ixN xs.length i).bind fun j => xs[j]?
theorem ixN_seq {n : Nat} {i : Int} {j : Nat} (h : ixN n i = some j) : seqIndex? i n = some j ∧ j < n ∧ -(n : Int) ≤ i ∧ i < n := by
  unfold ixN at h
  by_cases h0 : 0 ≤ i
  · rw [if_pos h0] at h
    by_cases h1 : i < n
    · rw [if_pos h1] at h
      have e : i.toNat = j := Option.some.inj h
      exact ⟨by rw [seqIndex_of h0 h1, e], by omega, by omega, h1⟩
    · rw [if_neg h1] at h; cases h
  · rw [if_neg h0] at h
    by_cases h1 : -(n : Int) ≤ i
    · rw [if_pos h1] at h
      have e : (i + n).toNat = j := Option.some.inj h
      exact ⟨by rw [seqIndex_neg (by omega) h1, e], by omega, h1, by omega⟩
    · rw [if_neg h1] at h; cases h
theorem atI_get {α : Type} {xs : List α} {i : Int} {v : α} (h : atI xs i = some v) : ∃ j, seqIndex? i xs.length = some j ∧ xs[j]? = some v ∧ j < xs.length ∧ -(xs.length : Int) ≤ i ∧ i < xs.length := by
  unfold atI at h
  cases e : ixN xs.length i with
  | none => rw [e] at h; cases h
  | some j =>
    rw [e] at h
    obtain ⟨h1, h2, h3, h4⟩ := ixN_seq e
    exact ⟨j, h1, h, h2, h3, h4⟩
theorem atI_nat {α : Type} {xs : List α} {j : Nat} {v : α} (h : xs[j]? = some v) : atI xs (j : Int) = some v := by
  have hj : j < xs.length := (List.getElem?_eq_some_iff.mp h).1
  have e : ixN xs.length (j : Int) = some j := by
    unfold ixN
    rw [if_pos (by omega), if_pos (by omega)]; simp
  unfold atI; rw [e]; exact h
/-! ### what may be subscripted -/
def PlainIx (b : Expr) : Prop := ∀ o i, subscripted b false o i = operate [o, i] (getItem o i)
def IxR (X : Cx) (r : R2) : Prop :=
  ∀ (value slice : Expr) (pins : List (Addr × Obj)) (s : Shared) (σ : St) (H : Hp) (x y : V) (v u : Value) (Q : VK), Inv X pins σ H s → RelV x v → RelV y u → r x y H Q →
    subscripted slice false v u = operate [v, u] (getItem v u) → wpAny (model X.prog X.w) X.A (subscriptTail value slice v u) (EP X pins σ Q) X.xe s
def MtR (X : Cx) (id : String) (r : V → List V → Hp → VK → Prop) : Prop :=
  ∀ (pins : List (Addr × Obj)) (s : Shared) (σ : St) (H : Hp) (x : V) (xs : List V) (v : Value) (us : List Value) (Q : VK), Inv X pins σ H s → RelV x v → Vals xs us → r x xs H Q →
    wpAny (model X.prog X.w) X.A (call (.builtin id) (v :: us)) (EP X pins σ Q) X.xe s
section
variable {X : Cx} {a b : Expr} {ta tb : TE} {pos : Pos}
theorem pe_ix {r : R2} (hr : IxR X r) (ha : PE X a ta) (hb : PE X b tb) (hs : PlainIx b) : PE X (.Subscript a b pos) (tOp r ta tb) := by
  intro pins s σ H Q I h
  exact Subscript_ (binT ha hb I h fun v u s2 x y H2 I2 rx ry q => hr a b pins s2 σ H2 x y v u Q I2 rx ry q (hs _ _))

def rIxL (K : PySem.W.Frag) : R2 := fun x y H Q => ∃ p xs i v, x = .ref p ∧ y = .int i ∧ SqL K H p xs ∧ atI xs i = some v ∧ Q v H
def rIxT (K : PySem.W.Frag) : R2 := fun x y H Q => ∃ p xs i v, x = .ref p ∧ y = .int i ∧ SqT K H p xs ∧ atI xs i = some v ∧ Q v H
def rIxS : R2 := fun x y H Q => ∃ z i c, x = .str z ∧ y = .int i ∧ z.length ≤ sizeLine ∧ atI z.cps.toList i = some c ∧ Q (.str ⟨#[c]⟩) H
theorem ix_list : IxR X (rIxL X.K) := by
  intro value slice pins s σ H x y v u Q I rx ry h hs
  obtain ⟨p, xs, i, z, rfl, rfl, hq, he, q⟩ := h
  cases rx
  obtain ⟨t, rfl⟩ := ry
  obtain ⟨its, r, pl, hz⟩ := I.list hq
  obtain ⟨j, h1, h2, h3, h4, h5⟩ := atI_get he
  obtain ⟨w, ew, rw'⟩ := r.get h2
  have hl := r.length
  have hn := line63
  have fin : EP X pins σ Q w s := ⟨z, H, I, rw', q⟩
  by_cases h0 : 0 ≤ i
  · have hj : i.toNat = j := by
      rw [seqIndex_of h0 h5] at h1
      exact Option.some.inj h1
    exact item_listR pl.isList h0 (by omega) (by rw [hj]; simpa using ew) fin hs
  · have hj : (i + (its.toArray.size : Int)).toNat = j := by
      rw [seqIndex_neg (by omega) h4] at h1
      rw [List.size_toArray, ← hl]
      exact Option.some.inj h1
    exact subscriptTail_builtinR (x := w) pl.isList.typeIs slot_list_getitem.lookup
      (wpAny_getItem_list_neg (Q := fun r s' => r = w ∧ EP X pins σ Q r s') pl.isList (by omega) (by rw [List.size_toArray] <;> omega) (by omega) (by rw [hj]; simpa using ew) ⟨rfl, fin⟩) hs
theorem ix_tup : IxR X (rIxT X.K) := by
  intro value slice pins s σ H x y v u Q I rx ry h hs
  obtain ⟨p, xs, i, z, rfl, rfl, hq, he, q⟩ := h
  cases rx
  obtain ⟨t, rfl⟩ := ry
  obtain ⟨its, r, pl, hz⟩ := I.tuple hq
  obtain ⟨j, h1, h2, h3, h4, h5⟩ := atI_get he
  obtain ⟨w, ew, rw'⟩ := r.get h2
  have hl := r.length
  have hn := line63
  have fin : EP X pins σ Q w s := ⟨z, H, I, rw', q⟩
  exact subscriptTail_builtinR (x := w) pl.typeIs slot_tuple_getitem.lookup
    (getItem_tuple (j := j) (Q := fun r s' => r = w ∧ EP X pins σ Q r s') pl (by omega) (by omega) (by rw [List.size_toArray, ← hl]; exact h1) (by simpa using ew) ⟨rfl, fin⟩) hs
theorem ix_str : IxR X rIxS := by
  intro value slice pins s σ H x y v u Q I rx ry h hs
  obtain ⟨z, i, c, rfl, rfl, hz, he, q⟩ := h
  obtain ⟨t, rfl⟩ := rx
  obtain ⟨t', rfl⟩ := ry
  obtain ⟨j, h1, h2, h3, h4, h5⟩ := atI_get he
  have hl : z.cps.toList.length = z.length := by simp [Str.length]
  rw [hl] at h1 h4 h5
  have hn := line63
  exact tail_any (typeIs_str s z t) slot_str_getitem.lookup (getItem_str (c := c) (by
    have e1 : decide (i < -(2 ^ 63 : Int)) = false := decide_eq_false (by omega)
    have e2 : decide (i ≥ 2 ^ 63) = false := decide_eq_false (by omega)
    rw [e1, e2, Bool.or_false]) (by rw [h1]; simpa using h2) ⟨.str ⟨#[c]⟩, H, I.tok _, ⟨_, rfl⟩, q⟩) hs
/-! ### xs[i] = v, any sign -/
/-! ### slices -/
theorem slice_bounds (lo hi : Option Int) (n : Nat) : (sliceBounds lo hi none n).1 = ((HT.sIx n 0 lo : Nat) : Int) ∧ (sliceBounds lo hi none n).2.1 = ((HT.sIx n n hi : Nat) : Int) ∧ (sliceBounds lo hi none n).2.2 = 1 := by
  refine ⟨?_, ?_, rfl⟩
  · cases lo with
    | none => simp [sliceBounds, HT.sIx]
    | some i =>
      simp only [sliceBounds, HT.sIx, Option.getD_none, show (1 : Int) > 0 by decide, if_true]
      by_cases h : i < 0
      · simp only [h, if_true] <;> omega
      · simp only [h, if_false] <;> omega
  · cases hi with
    | none => simp [sliceBounds, HT.sIx]
    | some i =>
      simp only [sliceBounds, HT.sIx, Option.getD_none, show (1 : Int) > 0 by decide, if_true]
      by_cases h : i < 0
      · simp only [h, if_true] <;> omega
      · simp only [h, if_false] <;> omega
theorem slicePick_cut (its : List Value) (lo hi : Option Int) : slicePick its.toArray lo hi none = ((its.drop (HT.sIx its.length 0 lo)).take (HT.sIx its.length its.length hi - HT.sIx its.length 0 lo)).toArray := by
  obtain ⟨h1, h2, h3⟩ := slice_bounds lo hi its.toArray.size
  unfold slicePick
  rw [h1, h2, h3]
  simp only [sliceRange_one, pick_run, List.size_toArray] <;> rfl
def rSlL (K : PySem.W.Frag) : V → Option Int → Option Int → Hp → VK → Prop := fun x lo hi H Q => ∃ a xs, x = .ref a ∧ SqL K H a xs ∧ ∀ p, H p = none → Q (.ref p) (upd H p (.lst (cutV xs lo hi)))
theorem sl_list : SlR X (rSlL X.K) := by
  intro pins s σ H x v vl vu lo hi sl Q I rx hs pl pu h
  obtain ⟨a, xs, rfl, hx, q⟩ := h
  cases rx
  obtain ⟨its, r, ht, hz⟩ := I.list hx
  have hlen := r.length
  refine ⟨"list", _, slot_list_getitem.lookup, ht.isList.typeIs, ?_⟩
  refine wpAny_getItem_list_slice ht.isList hs pl pu .none (by simp) ?_ (by rw [List.size_toArray] <;> omega)
  rw [slicePick_cut, ← hlen]
  refine ⟨.ref s.heap.objs.size, _, I.laid (t' := s.toks) (o := .lst (cutV xs lo hi)) (fun b ob q => Heap.get?_push_of_some _ q) (Nat.le_refl _) ?_, rfl, q _ (I.hok.fresh (Nat.le_refl _))⟩
  exact ⟨Nat.le_trans (cutV_length xs lo hi) hz, _, 0, (r.drop (HT.sIx xs.length 0 lo)).take (HT.sIx xs.length xs.length hi - HT.sIx xs.length 0 lo), Heap.get?_push_size _ rfl⟩

/-! ### in, not in: flat items -/
def flatV : V → Bool
  | .non => true
  | .bl _ => true
  | .int _ => true
  | .str _ => true
  | _ => false
def eqV : V → V → Bool
  | .non, .non => true
  | .bl a, .bl b => a == b
  | .bl a, .int b => (if a then 1 else 0) == b
  | .int a, .bl b => a == (if b then 1 else 0)
  | .int a, .int b => a == b
  | .str a, .str b => a == b
  | _, _ => false
theorem eqAt_V {A : Around} {s : Shared} {y x : V} {u v : Value} (ry : RelV y u) (rx : RelV x v) (fy : flatV y = true) (fx : flatV x = true) : SeqAt.EqAt A s u v (eqV y x) := by
  cases y with
  | non =>
    cases ry
    cases x with
    | non => cases rx; exact SeqAt.EqAt.same _
    | bl b => cases rx; exact SeqAt.EqAt.none_bool b
    | int b => obtain ⟨t, rfl⟩ := rx; exact SeqAt.EqAt.none_int b t
    | str b => obtain ⟨t, rfl⟩ := rx; exact SeqAt.EqAt.none_str b t
    | _ => exact absurd (show false = true from fx) Bool.false_ne_true
  | bl a =>
    cases ry
    cases x with
    | non => cases rx; exact SeqAt.EqAt.bool_none a
    | bl b => cases rx; exact SeqAt.EqAt.bool_bool a b
    | int b => obtain ⟨t, rfl⟩ := rx; exact SeqAt.EqAt.bool_int a b t
    | str b => obtain ⟨t, rfl⟩ := rx; exact SeqAt.EqAt.bool_str a b t
    | _ => exact absurd (show false = true from fx) Bool.false_ne_true
  | int a =>
    obtain ⟨t', rfl⟩ := ry
    cases x with
    | non => cases rx; exact SeqAt.EqAt.int_none a t'
    | bl b => cases rx; exact SeqAt.EqAt.int_bool a t' b
    | int b => obtain ⟨t, rfl⟩ := rx; exact SeqAt.EqAt.int_int a t' b t
    | str b => obtain ⟨t, rfl⟩ := rx; exact SeqAt.EqAt.int_str a t' b t
    | _ => exact absurd (show false = true from fx) Bool.false_ne_true
  | str a =>
    obtain ⟨t', rfl⟩ := ry
    cases x with
    | non => cases rx; exact SeqAt.EqAt.str_none a t'
    | bl b => cases rx; exact SeqAt.EqAt.str_bool a t' b
    | int b => obtain ⟨t, rfl⟩ := rx; exact SeqAt.EqAt.str_int a t' b t
    | str b => obtain ⟨t, rfl⟩ := rx; exact SeqAt.EqAt.str_str a t' b t
    | _ => exact absurd (show false = true from fx) Bool.false_ne_true
  | _ => exact absurd (show false = true from fy) Bool.false_ne_true
def eqU (x : V) (u : Value) : Bool := match u with
  | .none => eqV .non x
  | .bool b => eqV (.bl b) x
  | .int i _ => eqV (.int i) x
  | .str z _ => eqV (.str z) x
  | _ => false
theorem eqU_of {x y : V} {u : Value} (r : RelV y u) (f : flatV y = true) : eqU x u = eqV y x := by
  cases y with
  | non => cases r; rfl
  | bl b => cases r; rfl
  | int i => obtain ⟨t, rfl⟩ := r; rfl
  | str z => obtain ⟨t, rfl⟩ := r; rfl
  | _ => exact absurd (show false = true from f) Bool.false_ne_true
theorem any_eqU {x : V} : ∀ {xs : List V} {us : List Value}, Vals xs us → xs.all flatV = true → us.any (eqU x) = xs.any fun y => eqV y x
  | _, _, .nil, _ => rfl
  | y :: xs, u :: us, .cons r t, f => by
    rw [List.all_cons, Bool.and_eq_true] at f
    rw [List.any_cons, List.any_cons, eqU_of r f.1, any_eqU t f.2]
theorem mem_eqAt {A : Around} {s : Shared} {x : V} {v : Value} (rx : RelV x v) (fx : flatV x = true) : ∀ {xs : List V} {us : List Value}, Vals xs us → xs.all flatV = true → ∀ u ∈ us, SeqAt.EqAt A s u v (eqU x u)
  | _, _, .nil, _ => fun u hu => by cases hu
  | y :: xs, u :: us, .cons r t, f => fun u' hu => by
    rw [List.all_cons, Bool.and_eq_true] at f
    rcases List.mem_cons.mp hu with rfl | hu
    · rw [eqU_of r f.1]; exact eqAt_V r rx f.1 fx
    · exact mem_eqAt rx fx t f.2 u' hu
def inV (x : V) (xs : List V) : Bool := xs.any fun y => eqV y x
def rIn (K : PySem.W.Frag) (neg : Bool) : R2 := fun x y H Q => ∃ p xs, y = .ref p ∧ (SqL K H p xs ∨ SqT K H p xs) ∧ flatV x = true ∧ xs.all flatV = true ∧ Q (.bl (if neg then !inV x xs else inV x xs)) H
theorem op_notIn_seq : OpR X (compareOp .NotIn) (rIn X.K true) := by
  intro pins s σ H x y v u Q I rx ry h
  obtain ⟨p, xs, rfl, hq, fx, fs, q⟩ := h
  cases ry
  rcases hq with hq | hq
  · obtain ⟨its, r, pl, hz⟩ := I.list hq
    refine SeqAt.notIn_listAt (eqU x) pl.isList (fun w hw => mem_eqAt rx fx r fs w (by simpa using hw)) ⟨.bl _, H, I, rfl, ?_⟩
    rw [show its.toArray.any (eqU x) = its.any (eqU x) by simp, any_eqU r fs]
    exact q
  · obtain ⟨its, r, pl, hz⟩ := I.tuple hq
    refine SeqAt.notIn_tupleAt (eqU x) pl (fun w hw => mem_eqAt rx fx r fs w (by simpa using hw)) ⟨.bl _, H, I, rfl, ?_⟩
    rw [show its.toArray.any (eqU x) = its.any (eqU x) by simp, any_eqU r fs]
    exact q
/-! ### len, list(x), tuple(x) of any list or tuple that is read -/
theorem call_len_seq : CallR X (.builtin "len") (fun xs H Q => ∃ p ys, xs = [.ref p] ∧ (SqL X.K H p ys ∨ SqT X.K H p ys) ∧ Q (.int ys.length) H) := by
  intro pins s σ H xs us Q I r h
  obtain ⟨p, ys, rfl, hq, q⟩ := h
  obtain ⟨u, rfl, rx⟩ := vals1 r
  cases rx
  have hn := line63
  rcases hq with hq | hq
  · obtain ⟨its, r', pl, hz⟩ := I.list hq
    have hlen := r'.length
    exact Calls.call_len_list pl.isList (by simp only [List.size_toArray] <;> omega) ⟨.int ys.length, H, I.tok _, ⟨s.toks + 1, by rw [List.size_toArray, hlen]⟩, q⟩
  · obtain ⟨its, r', pl, hz⟩ := I.tuple hq
    have hlen := r'.length
    exact len_tuple pl (by simp only [List.size_toArray] <;> omega) ⟨.int ys.length, H, I.tok _, ⟨s.toks + 1, by rw [List.size_toArray, hlen]⟩, q⟩
theorem call_len_str : CallR X (.builtin "len") (fun xs H Q => ∃ z, xs = [.str z] ∧ z.length ≤ sizeLine ∧ Q (.int z.length) H) := by
  intro pins s σ H xs us Q I r h
  obtain ⟨z, rfl, hz, q⟩ := h
  obtain ⟨u, rfl, t, rfl⟩ := vals1 r
  have hn := line63
  exact len_str (by omega) ⟨.int z.length, H, I.tok _, ⟨_, rfl⟩, q⟩
/-! ### the call of a builtin's method: o.m(..) -/
def tyV (K : PySem.W.Frag) (T : String) (x : V) (H : Hp) : Prop := match x with
  | .str _ => T = "str"
  | .int _ => T = "int"
  | .ref p => (T = "list" ∧ ∃ xs, SqL K H p xs) ∨ (T = "tuple" ∧ ∃ o, K.lookup p = some o ∧ o.cls = .type "tuple" ∧ o.dict = none) ∨
      (T = "dict" ∧ ((∃ kvs, H p = some (.dK kvs)) ∨ ∃ kvs, H p = some (.dT kvs))) ∨ (T = "set" ∧ ∃ S n, H p = some (.set S n))
  | _ => False
theorem tyV_is {pins : List (Addr × Obj)} {σ : St} {H : Hp} {s : Shared} {T : String} {x : V} {v : Value} (I : Inv X pins σ H s) (r : RelV x v) (ty : tyV X.K T x H) :
    s.TypeIs v T ∧ ∀ a, v = .ref a → ∃ ob, s.heap.get? a = some ob ∧ ob.dict = none := by
  cases x with
  | str z =>
    obtain ⟨t, rfl⟩ := r
    cases (show T = "str" from ty)
    exact ⟨typeIs_str s z t, fun _ e => nomatch e⟩
  | int i =>
    obtain ⟨t, rfl⟩ := r
    cases (show T = "int" from ty)
    exact ⟨typeIs_int s i t, fun _ e => nomatch e⟩
  | ref p =>
    cases r
    rcases ty with ⟨rfl, xs, hq⟩ | ⟨rfl, o, hk, hc, hd⟩ | ⟨rfl, hk⟩ | ⟨rfl, S, n, hk⟩
    · obtain ⟨its, _, pl, _⟩ := I.list hq
      refine ⟨pl.isList.typeIs, fun a e => ?_⟩
      cases e
      obtain ⟨o, n, e, c, hd, _⟩ := pl
      exact ⟨o, e, hd⟩
    · refine ⟨⟨o, I.kIn p o hk, hc⟩, fun a e => ?_⟩
      cases e
      exact ⟨o, I.kIn _ o hk, hd⟩
    · have z : ∃ o, s.heap.get? p = some o ∧ o.ExactDict := by
        rcases hk with ⟨kvs, hk⟩ | ⟨kvs, hk⟩
        · obtain ⟨_, _, _, _, o, _, _, e, ex, _⟩ := I.hok p _ hk
          exact ⟨o, e, ex⟩
        · obtain ⟨_, _, _, _, o, _, _, e, ex, _⟩ := I.hok p _ hk
          exact ⟨o, e, ex⟩
      obtain ⟨o, e, ex⟩ := z
      refine ⟨⟨o, e, ex.1⟩, fun a e2 => ?_⟩
      cases e2
      exact ⟨o, e, ex.2.1⟩
    · obtain ⟨o, _, _, _, e, ex, _⟩ := I.hok p _ hk
      refine ⟨⟨o, e, ex.1⟩, fun a e2 => ?_⟩
      cases e2
      exact ⟨o, e, ex.2.1⟩
  | _ => exact False.elim ty
def tBM (K : PySem.W.Frag) (T : String) (r : V → List V → Hp → VK → Prop) (to : TE) (t : TA) : TE := fun σ H Q => to σ H fun x H1 => tyV K T x H1 ∧ t σ H1 fun xs H2 => r x xs H2 Q
variable {o e : Expr} {es : List Expr} {to : TE} {t : TA} {name : Str} {apos cpos : Pos} {T id : String} {r : V → List V → Hp → VK → Prop}
theorem pe_bm (pa : PlainAttrs T) (slot : Slot T name id) (hty : typeOf (.builtin id) = pure (.type "method_descriptor")) (hm : MtR X id r) (ho : PE X o to) (ha : PA X (e :: es) t)
    (hbase : attributeBase o name X.env (eval o X.env) = eval o X.env := by rfl)
    (hfew : ((backTo cpos (starEach (e :: es) X.env)).all (fun x => !x.1) && (backToKw cpos (keywordEach [] X.env)).all (fun x => x.1.isSome)
      && decide ((e :: es).length + ([] : List Keyword).length + (if ([] : List Keyword).isEmpty then 0 else 1) < 30)) = true := by rfl)
    (hline : (apos.endLine == cpos.line) = true := by rfl) (hs : starEach (e :: es) X.env = (false, eval e X.env) :: starEach es X.env := by rfl) (hplain : (backTo cpos (starEach es X.env)).any (·.1) = false := by rfl) :
    PE X (.Call (.Attribute o name apos) (e :: es) [] cpos) (tBM X.K T r to t) := by
  intro pins s σ H Q I h
  refine wpAny_Call_method_late hbase hfew hline rfl (thn (ho pins s σ H _ I h) fun v s1 ⟨x, H1, I1, r1, ty, q1⟩ => ?_)
  obtain ⟨h1, h2⟩ := tyV_is I1 r1 ty
  refine ⟨T, id, pa, slot, hty, h1, h2, ?_⟩
  have hA := ha cpos pins s1 σ H1 _ I1 q1
  rw [hs] at hA ⊢
  refine Calls.callWith_builtin (by show (false || (backTo cpos (starEach es X.env)).any (·.1)) = false; rw [hplain] <;> rfl) (Calls.evalArgs_plain ?_)
  exact thn hA fun us s2 ⟨vs, H2, I2, r2, q2⟩ => hm pins s2 σ H2 x vs v us Q I2 r1 r2 q2
/- xs.append(e), list.index on a module's tuple .. are MtR facts of 06m -/
end
end L2

namespace L2
open PySem PySem.Spec PyProof.Rows

def MtM (X : Cx) (id : String) (r : V → List V → Hp → VK → Prop) : Prop :=
  ∀ (pins : List (Addr × Obj)) (s : Shared) (σ : St) (H : Hp) (x : V) (xs : List V) (v : Value) (us : List Value) (Q : VK), Inv X pins σ H s → RelV x v → Vals xs us → r x xs H Q →
    wpAny (model X.prog X.w) X.A (call (.builtin id) (v :: us)) (EP X pins σ Q) X.xe s

/-! ### lists of values -/
theorem Vals.one : ∀ {x : V} {us : List Value}, Vals [x] us → ∃ u, us = [u] ∧ RelV x u
  | _, _, .cons r .nil => ⟨_, rfl, r⟩
section
variable {X : Cx} {pins : List (Addr × Obj)} {σ : St} {H : Hp} {s : Shared} {l b : Addr} {xs ys zs : List V}

/-! ### the two steps: a tracked list is rewritten, a new list is laid -/
theorem Inv.lset {its its' : List Value} {n : Nat} {f : Array Value → Array Value} {t' : Nat} (I : Inv X pins σ H s) (hH : H l = some (.lst xs))
    (e : s.heap.get? l = some { cls := .type "list", data := .seq its.toArray n }) (hf : f its.toArray = its'.toArray) (hv : Vals ys its') (hz : ys.length ≤ sizeLine) :
    Inv X pins σ (upd H l (.lst ys)) { s with heap := s.heap.update l (Obj.mapSeq f), toks := t' } := by
  have q := PySem.IsL.update e f
  rw [hf] at q
  refine I.write (x := l) (e := l) (by rw [hH]; exact trivial) (.inl rfl) (fun b' u hb hu => (Heap.get?_update_other s.heap (Obj.mapSeq f) (Ne.symm hb)).trans hu) ⟨_, q⟩ ?_
  exact ⟨hz, its', _, hv, q⟩
theorem Inv.lnew {its : List Value} {t' : Nat} (I : Inv X pins σ H s) (hv : Vals ys its) (hz : ys.length ≤ sizeLine) :
    Inv X pins σ (upd H s.heap.objs.size (.lst ys)) { s with heap := s.heap.push { cls := .type "list", data := .seq its.toArray }, toks := t' } :=
  I.laid (fun _ _ q => Heap.get?_push_of_some _ q) (Nat.le_refl _) ⟨hz, its, 0, hv, Heap.get?_push_size _ rfl⟩
theorem Inv.fresh (I : Inv X pins σ H s) : H s.heap.objs.size = none := I.hok.fresh (Nat.le_refl _)
theorem Inv.lstM (I : Inv X pins σ H s) (hH : H l = some (.lst xs)) : xs.length ≤ sizeLine ∧ ∃ (its : List Value) (n : Nat), Vals xs its ∧ xs.length = its.length ∧ s.heap.get? l = some { cls := .type "list", data := .seq its.toArray n } := by
  obtain ⟨z, its, n, r, e⟩ := I.hok l _ hH
  exact ⟨z, its, n, r, r.length, e⟩

theorem notLongL {n : Nat} (h : n ≤ sizeLine) : Builtin.List.listTooLong n = false := by
  unfold Builtin.List.listTooLong
  exact decide_eq_false (by omega)
end

section
variable {X : Cx}

/-! ### methods -/
def rAppend : V → List V → Hp → VK → Prop := fun x vs H Q => ∃ l xs y, x = .ref l ∧ vs = [y] ∧ H l = some (.lst xs) ∧ xs.length < sizeLine ∧ Q .non (upd H l (.lst (xs ++ [y])))
theorem mt_append : MtM X "list.append" rAppend := by
  intro pins s σ H x vs v us Q I rx rv h
  obtain ⟨l, xs, y, rfl, rfl, hH, hz, q⟩ := h
  cases rx
  obtain ⟨u, rfl, ru⟩ := rv.one
  obtain ⟨z, its, n, r, hl, e⟩ := I.lstM hH
  refine call_meets F.slot_list_append ⟨_, e, rfl⟩ F.entry_list_append (F.args_list_append_2 _ _) (PySem.list_append l its.toArray n u (by rw [List.size_toArray]; omega)) ⟨e, ?_⟩
  refine ⟨.non, _, I.lset (its' := its ++ [u]) hH e (by simp) (r.append (.cons ru .nil)) ?_, rfl, q⟩
  rw [List.length_append, List.length_singleton]
  omega

def rExtend : V → List V → Hp → VK → Prop := fun x vs H Q => ∃ l b xs zs, x = .ref l ∧ vs = [.ref b] ∧ H l = some (.lst xs) ∧ H b = some (.lst zs) ∧ xs.length + zs.length ≤ sizeLine ∧ Q .non (upd H l (.lst (xs ++ zs)))
theorem mt_extend : MtM X "list.extend" rExtend := by
  intro pins s σ H x vs v us Q I rx rv h
  obtain ⟨l, b, xs, zs, rfl, rfl, hH, hB, hz, q⟩ := h
  cases rx
  obtain ⟨u, rfl, ru⟩ := rv.one
  cases ru
  obtain ⟨z, its, n, r, hl, e⟩ := I.lstM hH
  obtain ⟨z2, its2, n2, r2, hl2, e2⟩ := I.lstM hB
  have hsz : its.toArray.size + its2.toArray.size ≤ sizeLine := by rw [List.size_toArray, List.size_toArray]; omega
  have hlong : ¬ (!its.toArray.isEmpty && Builtin.List.listTooLong (its.toArray.size + its2.toArray.size)) = true := by
    rw [notLongL hsz, Bool.and_false]
    exact Bool.false_ne_true
  refine call_meets F.slot_list_extend ⟨_, e, rfl⟩ F.entry_list_extend (F.args_list_extend_2 _ _)
    (AutoSeq1.list_extend_list_list_0 l its.toArray n b its2.toArray n2 hlong (by rw [List.size_toArray]; omega) (by omega)) ⟨e, e2, ?_⟩
  refine ⟨.non, _, I.lset (its' := its ++ its2) hH e (by simp) (r.append r2) ?_, rfl, q⟩
  rw [List.length_append]
  omega

/-! ### list + list, list += list, list * int -/
def rCat : R2 := fun x y H Q => ∃ l b xs zs, x = .ref l ∧ y = .ref b ∧ H l = some (.lst xs) ∧ H b = some (.lst zs) ∧ xs.length + zs.length ≤ sizeLine ∧ ∀ p, H p = none → Q (.ref p) (upd H p (.lst (xs ++ zs)))
theorem op_cat : OpR X (binaryOp .Add) rCat := by
  intro pins s σ H x y v u Q I rx ry h
  obtain ⟨l, b, xs, zs, rfl, rfl, hH, hB, hz, q⟩ := h
  cases rx
  cases ry
  obtain ⟨z, its, n, r, hl, e⟩ := I.lstM hH
  obtain ⟨z2, its2, n2, r2, hl2, e2⟩ := I.lstM hB
  refine PySem.P.add_list e e2 ?_ (by rw [List.size_toArray, List.size_toArray]; omega)
  have ea : its.toArray ++ its2.toArray = (its ++ its2).toArray := by simp
  rw [ea]
  exact ⟨.ref _, _, I.lnew (t' := s.toks) (r.append r2) (by rw [List.length_append]; omega), rfl, q _ I.fresh⟩
/-! ### del xs[i] -/
end

/-! ### xs[a:b] = ys -/
section
variable {prog : Program} {w : World} {A : Around} {E : Value → Shared → Prop} {s : Shared}
end

section
variable {X : Cx}
end
end L2

namespace Att
open PySem PySem.W PySem.Calls PyProof.Rows

/-! ### the script -/
theorem ints_of_wellAll {P : Params} {h : Heap} : ∀ (ns : List Int) (vs : List Value), WellAll P h vs (ns.map WData.int) → IntsAre vs ns := by
  intro ns
  induction ns with
  | nil =>
    intro vs w
    rw [List.map_nil] at w
    cases w
    exact .nil
  | cons n ns ih =>
    intro vs w
    rw [List.map_cons] at w
    cases w with
    | cons a b =>
      cases a
      exact .cons _ _ (ih _ b)

theorem script_of {l : OpenLaw} {n : Nat} (hn : l.most = some n) {P : Params} {h : Heap} {args : List WData} {vals : List Value}
    (hpre : l.row.toRowW.claim.pre args = true) (hwl : WellAll P h vals args) :
    ∃ a vs ns, vals = [Value.ref a] ∧ args = [WData.list (ns.map WData.int)] ∧ h.get? a = some { cls := .type "list", data := .seq vs.toArray } ∧ IntsAre vs ns ∧ ns.length ≤ n := by
  have hsh : WShape.hasAll [] args [.list .int] = true := (pre_splitW hpre).1
  have hc : l.pre.holds [] { args := args } = true := (pre_splitW hpre).2
  obtain ⟨d, r, rfl, h1, h2⟩ := hasAllW_cons hsh
  obtain rfl := hasAllW_nil h2
  obtain ⟨xs, rfl, h3⟩ := hasW_list h1
  obtain ⟨ns, rfl⟩ := items_int h3
  have hlen : ns.length ≤ n := by
    unfold OpenLaw.pre at hc
    have h4 : (WTm.not (.lt (.lit (.int (n : Int))) (.len (.arg 0)))).holds [] { args := [.list (ns.map .int)] } = true := by
      have h4 := (holds_andW hc).1
      rw [hn] at h4
      exact h4
    have h5 := condW_of h4 (w_not (w_lt w_lit (w_len_list (w_arg rfl))))
    rw [List.length_map] at h5
    refine Nat.le_of_not_lt fun q => ?_
    have q' : (n : Int) < ((ns.length : Nat) : Int) := by omega
    first
      | (rw [decide_eq_true q'] at h5; exact absurd h5 (by decide))
      | (simp at h5; omega)
  cases hwl with
  | cons w1 w2 =>
    cases w2
    cases w1 with
    | list ho hall => exact ⟨_, _, ns, rfl, rfl, ho, ints_of_wellAll ns _ hall, hlen⟩

theorem post_true (l : OpenLaw) (args : List WData) : l.row.toRowW.claim.post args (.bool true) args = true :=
  postW_of (r := l.row.toRowW) (X := (true == true))
    (show WShape.has [] (.bool true) .bool = true by first | rfl | decide | simp [WShape.has, WShape.arms, WShape.armsAll])
    (show (WTm.eq .res (.lit (.bool true))).value [] { args := args, res := some (.bool true), after := args } = some (.bool (true == true)) from w_eq_bool (w_res rfl) w_lit) rfl

/-! ### the attachment: holds_open's last premise (the goal 'hc' behind k_head) from a wpAny of the law's body -/
theorem attach_call {l : OpenLaw} {n : Nat} {q : Program} {loose : List Str} {XP : (Str → Option Value) → Heap → Prop} {YP : World → Heap → Prop} {d : DefRec}
    (hn : l.most = some n) (hdf : d.params.defaults = [])
    (call : ∀ (w : World) (s₀ s₁ : Shared) (mg mb : Str → Option Value) (fa : Addr) (o : Obj) (pm cd doc : Value) (a : Addr) (vs : List Value) (ns : List Int),
      Ground q loose [] XP w s₀ mg mb s₁.heap → YP w s₁.heap →
      s₁.heap.get? fa = some o → o.data = .func (docDef d.name d.params d.body d.scope pm cd doc) → s₁.heap.CodeRec cd d.name → mg d.name = some (.ref fa) →
      s₁.heap.get? a = some { cls := .type "list", data := .seq vs.toArray } → IntsAre vs ns → ns.length ≤ n → s₁.gens = #[] →
      codeAny (model l.prog w) callerA (.call (.ref fa) ⟨[.ref a], []⟩) (fun r s' => r = .ok (.ret (.bool true)) ∧ OldK s₁.heap s'.heap ∧ s'.os = s₁.os ∧ AllBare s'.gens) s₁) :
    WalkO q loose XP YP l.row.toRowW d [] (fun f vs => PySem.call f vs) := by
  intro w s₀ s₁ mg mb G Y fa o pm cd doc dV kV ho hd hcd hD hmg hg args vals as hpre hlay hrd hwl hlo
  obtain rfl : dV = .none := Dflts.none hD hdf
  obtain rfl : kV = .none := Dflts.noKw hD
  obtain ⟨a, vs, ns, rfl, rfl, hobj, hints, hlen⟩ := script_of hn hpre hwl
  refine enter_call (codeAny_mono (call w s₀ s₁ mg mb fa o pm cd doc a vs ns G Y ho (fd_plain hd) hcd hmg hobj hints hlen hg) fun r s' hq => ?_)
  obtain ⟨rfl, h2, h3, h4⟩ := hq
  exact ⟨.inl ⟨.bool true, .bool true, [], rfl, fun _ => rfl, .bool true, post_true l _, fun _ => ⟨List.Pairwise.nil, fun _ hm => (nomatch hm)⟩⟩, h2, h3, h4⟩

/-! ### rules over ANY heap (no ledger) from facts about the written part K: the library's own take a ledger (News) for what they write -/
section
variable {prog : Program} {w : World} {A : Around} {E : Value → Shared → Prop} {s : Shared} {K : Frag}

/-! the whole heap as the ledger: makes every rule that writes through a ledger a rule over any heap -/
def ledger (h : Heap) (L d : Addr) : List (Addr × Obj) := (List.range h.objs.size).filterMap fun a => if a = L ∨ a = d then none else (h.get? a).map fun o => (a, o)
end
end Att

namespace L2
open PySem PySem.Spec PyProof.Rows

theorem vals_ints : ∀ {vs : List Value} {ns : List Int}, IntsAre vs ns → Vals (ns.map V.int) vs
  | _, _, .nil => .nil
  | _, _, .cons n t h => .cons ⟨t, rfl⟩ (vals_ints h)

def Only (H : Hp) : Prop := ∀ b, H b = none ∨ ∃ o xs, H b = some (.frz o (.lst xs))

theorem law_call {P : Program} {w : World} {K : PySem.W.Frag} {mg mb : Str → Option Value} {CX : CXT} {k : Nat} {fa a : Addr} {fd : FuncData} {x : Str} {sp : Sp} {s₁ : Shared} {vs : List Value} {ns : List Int}
    (KX : K.In s₁.heap) (hns : s₁.heap.Ns mainGlobals mg) (hb : s₁.heap.Ns builtinsNs mb) (hbb : ∀ x : Str, x ≠ "__name__" → mb x = bootBuiltins x) (hlim : s₁.heap.NoLimit) (hg : s₁.gens = #[])
    (ha : s₁.heap.get? a = some { cls := .type "list", data := .seq vs.toArray }) (hi : IntsAre vs ns) (hl : ns.length ≤ sizeLine) (hr : Room k callerA)
    (F : ∀ base : Heap, K.In base → base.Ns mainGlobals mg → FnOk P w K mg base CX k fa fd [x] sp) (hbind : ∀ (s : Shared) (u : Value), BindsTo s fd ⟨[u], []⟩ [(x, u)])
    (hsp : ∀ H : Hp, Only H → SqL K H a (ns.map V.int) → sp [.ref a] H (fun v _ => v = .bl true) fun _ _ _ => False)
    (hCX : ∀ H e s', CX [] H s₁ (fun _ _ _ => False) e s' → False) :
    codeAny (model P w) callerA (.call (.ref fa) ⟨[.ref a], []⟩) (fun r s' => r = .ok (.ret (.bool true)) ∧ OldK s₁.heap s'.heap ∧ s'.os = s₁.os ∧ AllBare s'.gens) s₁ := by
  have rv := vals_ints hi
  have lenV := hi.length
  -- from an abstract heap in which nothing but the script may be tracked
  have core : ∀ H : Hp, Only H → SqL K H a (ns.map V.int) → HOk P w H s₁.heap → (∀ b, H b ≠ none → b = a) → (H a ≠ none → K.lookup a = none) →
      codeAny (model P w) callerA (.call (.ref fa) ⟨[.ref a], []⟩) (fun r s' => r = .ok (.ret (.bool true)) ∧ OldK s₁.heap s'.heap ∧ s'.os = s₁.os ∧ AllBare s'.gens) s₁ := by
    intro H hO hS hok hA hK
    have base_of : ∀ {b : Addr} {o : Obj}, s₁.heap.get? b = some o → H b = none → (hidT s₁.heap H).get? b = some o := fun e n => hidT_get e n
    have noA : ∀ {b : Addr} {o : Obj} {es : Array DictEntry} {ep : Nat}, s₁.heap.get? b = some o → o.data = .dict es ep → H b = none := fun {b o es ep} e d => by
      cases q : H b with
      | none => rfl
      | some u =>
        have e' : b = a := hA b (by rw [q]; simp)
        subst e'
        rw [ha] at e; cases e
        have d' : Data.seq vs.toArray _ = Data.dict es ep := d
        cases d'
    have nsK : ∀ {b : Addr} {m : Str → Option Value}, s₁.heap.Ns b m → (hidT s₁.heap H).Ns b m := fun {b m} ⟨o, es, ep, e, d, r⟩ => ⟨o, es, ep, base_of e (noA e d), d, r⟩
    have hKb : K.In (hidT s₁.heap H) := fun b o e => base_of (KX b o e) (by
      cases q : H b with
      | none => rfl
      | some u =>
        have e' : b = a := hA b (by rw [q]; simp)
        subst e'
        rw [hK (by rw [q]; simp)] at e; cases e)
    have hM : Mod K mg (hidT s₁.heap H) := ⟨hKb, nsK hns, ⟨mb, nsK hb, hbb⟩, let ⟨mc, h1, h2⟩ := hlim; ⟨mc, nsK h1, h2⟩⟩
    have e0 : Env0 P w K mg (hidT s₁.heap H) callerA [] s₁ H := ⟨rfl, hM, fun b o e => of_hidT e, Nat.le_of_eq (hidT_size _ _), trivial, fun b hb => absurd (show b ∈ ([] : List Addr) from hb) (by simp), hok, .of_eq hg⟩
    refine codeAny_mono ((F _ hKb (nsK hns)).run callerA [] s₁ H ⟨[.ref a], []⟩ [.ref a] [.ref a] _ _ hr e0 (hbind s₁ (.ref a)) (.cons rfl .nil) (hsp H hO hS)) fun r s' h => ?_
    cases r with
    | error e => exact (hCX H e s' h).elim
    | ok fl =>
      cases fl with
      | next => exact False.elim h
      | brk => exact False.elim h
      | cont => exact False.elim h
      | ret u =>
        obtain ⟨v, H', os, bare, un, hok', r', q⟩ := h
        have q' : v = .bl true := q
        subst q'
        obtain rfl : u = Value.bool true := r'
        refine ⟨rfl, OldK.of_keep fun b o e => ?_, os, bare⟩
        cases q : H b with
        | none => exact un.keep b o e q (by intro z; exact absurd (show b ∈ ([] : List Addr) from z) (by simp)) (by simp)
        | some u =>
          rcases hO b with z | ⟨ob, xs, z⟩
          · rw [q] at z; cases z
          · have z2 := un.frzs b ob _ z
            obtain ⟨e1, _⟩ := hok b _ z
            obtain ⟨e2, _⟩ := hok' b _ z2
            rw [e] at e1; cases e1
            exact e2
  cases hk : K.lookup a with
  | some o =>
    -- the script is one of the module's own objects
    have e := KX a o hk
    rw [ha] at e
    cases e
    refine core (fun _ => none) (fun _ => .inl rfl) (.inr ⟨_, vs.toArray, _, hk, rfl, rfl, rfl, by rw [List.size_toArray, lenV]; exact hl, by simpa using rv⟩) (fun b u z => by have z' : (none : Option HO) = some u := z; cases z') (fun b z => absurd rfl z) fun z => absurd rfl z
  | none =>
    refine core (fun b => if b = a then some (.frz { cls := .type "list", data := .seq vs.toArray } (.lst (ns.map V.int))) else none) (fun b => ?_) (.inl (.inr ⟨{ cls := .type "list", data := .seq vs.toArray }, if_pos rfl⟩)) (fun b u z => ?_) (fun b z => ?_) fun _ => hk
    · by_cases hb : b = a
      · exact .inr ⟨_, _, if_pos hb⟩
      · exact .inl (if_neg hb)
    · by_cases hb : b = a
      · have z' := (if_pos hb).symm.trans z
        cases z'
        subst hb
        exact ⟨ha, by rw [List.length_map]; exact hl, vs, _, rv, ha⟩
      · have z' := (if_neg hb).symm.trans z
        cases z'
    · by_cases hb : b = a
      · exact hb
      · exact absurd (if_neg hb) z
end L2

namespace L2
open PySem PySem.Spec PyProof.Rows

abbrev KOf {K : PySem.W.Frag} {h : Heap} (_ : K.In h) : PySem.W.Frag := K

theorem walk_of {l : PySem.W.OpenLaw} {n k : Nat} {q : Program} {loose : List Str} {XP : (Str → Option Value) → Heap → Prop} {YP : World → Heap → Prop} {d : DefRec} {K : Params → PySem.W.Frag} {CX : World → CXT} {sp : World → Sp} {x : Str}
    (hn : l.most = some n) (hn2 : n ≤ sizeLine) (hdf : d.params.defaults = []) (hr : Room k callerA)
    (hY : ∀ (w : World) (h : Heap), YP w h → (K w.params).In h)
    (F : ∀ (w : World) (mg : Str → Option Value) (fa : Addr) (h : Heap), (K w.params).In h → h.Ns mainGlobals mg → mg d.name = some (.ref fa) →
      ∃ fd : FuncData, (∀ (s : Shared) (u : Value), BindsTo s fd ⟨[u], []⟩ [(x, u)]) ∧
        ∀ base : Heap, (K w.params).In base → base.Ns mainGlobals mg → FnOk l.prog w (K w.params) mg base (CX w) k fa fd [x] (sp w))
    (hsp : ∀ (w : World) (H : Hp) (a : Addr) (ns : List Int), ns.length ≤ n → Only H → SqL (K w.params) H a (ns.map V.int) → sp w [.ref a] H (fun v _ => v = .bl true) fun _ _ _ => False)
    (hCX : ∀ (w : World) (H : Hp) (s : Shared) (e : Value) (s' : Shared), CX w [] H s (fun _ _ _ => False) e s' → False) :
    PySem.W.WalkO q loose XP YP l.row.toRowW d [] (fun f vs => PySem.call f vs) := by
  refine Att.attach_call hn hdf fun w s₀ s₁ mg mb fa o pm cd doc a vs ns G Y ho hd hcd hmg hobj hints hlen hg => ?_
  have KX := hY w _ Y
  obtain ⟨fd, hb, hF⟩ := F w mg fa _ KX G.T.g hmg
  exact law_call KX G.T.g G.T.b G.T.builtins G.T.nolimit hg hobj hints (Nat.le_trans hlen hn2) hr hF hb (fun H hO hS => hsp w H a ns hlen hO hS) fun H e s' => hCX w H s₁ e s'
end L2

/- THE LAST THEOREM (shape; LID, My.* are yours):
   My.Adr: a structure of the addresses that your layer names (classes, functions); My.Txt K t: a structure (Prop) of the equations over K;
   My.txt_mk : {K} {implicit addresses ..} (e1 : nsIn K mainGlobals "law" = some (some (.ref f))) (e2 : K.lookup f = some ⟨oc, od, .func (fnOf "law" "law" params body scope dV kV doc pm an cdv ct), sl⟩) (e3 : codeIn K cdv "law" = true) .. : ∃ t, My.Txt K t

set_option maxRecDepth 100000 in
set_option maxHeartbeats 0 in
theorem PySem.Challenge.cw_LID_holds : PySem.Challenge.rw_LID.Holds := by
  w_on; o_law; k_head; (case hw => w_witness2)
  k_fill
  refine L2.walk_of (l := PySem.Challenge.rw_LID) (n := 63) (k := 40) (x := "script") (CX := fun w => ..) (sp := fun _ => My.sp_law) rfl (by decide) rfl ⟨rfl, by decide, by decide⟩ (fun w h Y => PySem.W.kIn_of Y) ?F ?S ?C
  case F =>
    intro w mg fa h KX G hmg
    have T : ∃ t, My.Txt (L2.KOf KX) t := by
      dsimp only [L2.KOf]                          -- K must stand as «<heap const> w.params» for k_is
      refine' My.txt_mk ?e1 ?e2 ?e3 ..
      (case e1 => PySem.W.k_is)                    -- in the order: a name -> its address -> its object -> its parts
      (case e2 => PySem.W.k_is)
      ..
    obtain ⟨t, T⟩ := T
    have e0 := hmg.symm.trans (PySem.W.mg_of KX G T.law)
    cases e0                                       -- fa is the law's own address
    exact ⟨_, fun s u => .of_eq rfl, fun base kb nb => My.law_fn T kb nb⟩     -- if «.of_eq rfl» comes too early: refine' ⟨_, ?b, fun base kb nb => My.law_fn T kb nb⟩; exact fun s u => .of_eq rfl
  case S => exact fun w H a ns hl hO hS => ..
  case C => exact ..
(the tactic k_is has no namespace: write k_is) -/

/-! SHORT WORDS over the layer: a def of the text, its body, what a loop and a test want. -/
namespace L2
open PySem PySem.Spec PyProof.Rows

/-! ### the text by places -/
def defArgs (s : Stmt) : Arguments := match s with
  | .FunctionDef _ a _ _ _ _ _ _ _ _ => a
  | _ => { posonlyargs := [], args := [], vararg := none, kwonlyargs := [], kw_defaults := [], kwarg := none, defaults := [] }
def defBody (s : Stmt) : List Stmt := match s with
  | .FunctionDef _ _ b _ _ _ _ _ _ _ => b
  | _ => []
def defScope (s : Stmt) : Scope := match s with
  | .FunctionDef _ _ _ _ _ _ sc _ _ _ => sc
  | _ => { kind := .function, names := [], isGenerator := false, isCoroutine := false }

/-! ### no exception leaves a def -/
abbrev CX0 : CXT := fun _ _ _ _ _ _ => False
abbrev E0 : XK := fun _ _ _ => False
theorem pass0 {X : Cx} : Passes CX0 X E0 := fun _ _ _ _ _ _ _ h => h.elim

/-! ### a def (or method) of the text as it stands behind the top -/
structure Fun (K : PySem.W.Frag) (x qual : Str) (st : Stmt) (f : Addr) (fd : FuncData) : Prop where
  ex : ∃ (oc : Value) (od : Option Addr) (kV doc pm : Value) (an : Option Addr) (cdv ct : Value) (osl : Array (Option Value)),
    fd = PySem.W.fnOf x qual (defArgs st) (defBody st) (defScope st) .none kV doc pm an cdv ct ∧ K.lookup f = some ⟨oc, od, .func fd, osl⟩ ∧ PySem.W.codeIn K cdv qual = true
  kp : PySem.W.keepIn K (.ref f) = true
section
variable {P : Program} {w : World} {K : PySem.W.Frag} {mg : Str → Option Value} {base : Heap}
theorem Fun.ok {x qual : Str} {st : Stmt} {f : Addr} {fd : FuncData} {N ps : List Str} {k : Nat} {sp : Sp} (F : Fun K x qual st f fd) (S : FnScope N ps (defScope st)) (len : ∀ vs H Q E, sp vs H Q E → vs.length = ps.length)
    (hbody : ∀ (cdv : Value) (A : Around) (outer : List Env) (s : Shared) (H : Hp) (vs : List V) (Q : VK) (E : XK), Room k (A.deeper (envOfC qual (defScope st) s.heap.objs.size f cdv)) → sp vs H Q E →
      ∃ t, PSs (cxOf CX0 P w K mg base N qual (defScope st) f cdv A outer s H E).nox (defBody st) t ∧ t { nx := fun _ H' => Q .non H', rt := Q } (start N vs) H) : FnOk P w K mg base CX0 (k + 1) f fd ps sp := by
  obtain ⟨oc, od, kV, doc, pm, an, cdv, ct, osl, rfl, lk, hcd⟩ := F.ex
  refine fn_of lk hcd S len fun A outer s H vs Q E hr hsp => ?_
  obtain ⟨t, h, q⟩ := hbody cdv A outer s H vs Q E hr hsp
  exact ⟨t, h.nox, q⟩
theorem Fun.binds {x qual : Str} {st : Stmt} {f : Addr} {fd : FuncData} {ps : List Str} (F : Fun K x qual st f fd)
    (h : ∀ (kV doc pm : Value) (an : Option Addr) (cdv ct : Value) (us : List Value), us.length = ps.length → bindArgs (PySem.W.fnOf x qual (defArgs st) (defBody st) (defScope st) .none kV doc pm an cdv ct) ⟨us, []⟩ = pure (ps.zip us)) : Binds K fd ps [] := by
  obtain ⟨oc, od, kV, doc, pm, an, cdv, ct, osl, rfl, lk, hcd⟩ := F.ex
  exact .all (h kV doc pm an cdv ct)
theorem fun_mk {x qual : Str} {st : Stmt} {f : Addr} {oc : Value} {od an : Option Addr} {osl : Array (Option Value)} {kV doc pm cdv ct : Value} (l : K.lookup f = some ⟨oc, od, .func (PySem.W.fnOf x qual (defArgs st) (defBody st) (defScope st) .none kV doc pm an cdv ct), osl⟩)
    (c : PySem.W.codeIn K cdv qual = true) (k : PySem.W.keepIn K (.ref f) = true) : Fun K x qual st f (PySem.W.fnOf x qual (defArgs st) (defBody st) (defScope st) .none kV doc pm an cdv ct) := ⟨⟨oc, od, kV, doc, pm, an, cdv, ct, osl, rfl, l, c⟩, k⟩
end
theorem hu_of {A : Around} {k : Nat} (hr : Room k A) : A.units + 1 < cLine := Nat.lt_of_le_of_lt (Nat.add_le_add_left (by decide : 1 ≤ 64) _) hr.units
/-! ### expressions in short: the name that stands in the i-th slot -/
section
variable {X : Cx}
theorem pv (i : Nat) {x : Str} {pos : Pos} (hN : X.N[i]? = some x := by rfl) (hv : Vis X.env.scope x := by first | exact Or.inl rfl | exact Or.inr (Or.inl rfl) | exact Or.inr (Or.inr rfl)) (hd : (x == ("__debug__" : Str)) = false := by decide)
    (hcd : (x == ("__classdict__" : Str)) = false := by decide) : PE X (.Name x pos) (tVar i) := pe_var hN hv hd hcd
end

/-! ### tests -/
theorem iteF {A B : Prop} (h : B) : if false = true then A else B := by
  rw [if_neg Bool.false_ne_true]
  exact h
theorem iteT {A B : Prop} (h : A) : if true = true then A else B := by
  rw [if_pos rfl]
  exact h
/-! ### heaps -/
def Same (H H' : Hp) : Prop := ∀ b o, H b = some o → H' b = some o
theorem Same.refl (H : Hp) : Same H H := fun _ _ h => h
theorem Same.trans {H H1 H2 : Hp} (a : Same H H1) (b : Same H1 H2) : Same H H2 := fun c o h => b c o (a c o h)
theorem Same.free {H H' : Hp} (e : Same H H') {l : Addr} (h : H' l = Option.none) : H l = Option.none := by
  cases q : H l with
  | none => rfl
  | some o =>
    rw [e l o q] at h
    cases h
theorem Same.seq {K : PySem.W.Frag} {H H' : Hp} {a : Addr} {xs : List V} (e : Same H H') (h : SqL K H a xs) : SqL K H' a xs := by
  rcases h with (h | ⟨o, h⟩) | h
  · exact .inl (.inl (e _ _ h))
  · exact .inl (.inr ⟨o, e _ _ h⟩)
  · exact .inr h

end L2

/-! merging, told of lists: what is out, what is left of the one and of the other. -/
namespace L3
section
variable {α : Type} {r : α → α → Prop}
structure MInv (r : α → α → Prop) (T O X Y : List α) : Prop where
  so : O.Pairwise r
  sx : X.Pairwise r
  sy : Y.Pairwise r
  ox : ∀ o, o ∈ O → ∀ x, x ∈ X → r o x
  oy : ∀ o, o ∈ O → ∀ y, y ∈ Y → r o y
  pm : (O ++ X ++ Y).Perm T
variable {T O X Y X1 X2 Y1 Y2 : List α}
theorem MInv.swap (h : MInv r T O X Y) : MInv r T O Y X :=
  ⟨h.so, h.sy, h.sx, h.oy, h.ox, ((List.append_assoc O Y X) ▸ (List.Perm.append_left O (List.perm_append_comm (l₁ := Y) (l₂ := X)))).trans ((List.append_assoc O X Y) ▸ h.pm)⟩
theorem MInv.takeX (h : MInv r T O (X1 ++ X2) Y) (hh : ∀ x, x ∈ X1 → ∀ y, y ∈ Y → r x y) : MInv r T (O ++ X1) X2 Y := by
  have s := List.pairwise_append.mp h.sx
  refine ⟨List.pairwise_append.mpr ⟨h.so, s.1, fun o ho x hx => h.ox o ho x (List.mem_append_left _ hx)⟩, s.2.1, h.sy, ?_, ?_, ?_⟩
  · intro o ho x hx
    rcases List.mem_append.mp ho with ho | ho
    · exact h.ox o ho x (List.mem_append_right _ hx)
    · exact s.2.2 o ho x hx
  · intro o ho y hy
    rcases List.mem_append.mp ho with ho | ho
    · exact h.oy o ho y hy
    · exact hh o ho y hy
  · have e : O ++ X1 ++ X2 ++ Y = O ++ (X1 ++ X2) ++ Y := by rw [List.append_assoc O X1 X2]
    rw [e]; exact h.pm
theorem MInv.takeY (h : MInv r T O X (Y1 ++ Y2)) (hh : ∀ y, y ∈ Y1 → ∀ x, x ∈ X → r y x) : MInv r T (O ++ Y1) X Y2 :=
  (h.swap.takeX hh).swap
theorem MInv.endX (h : MInv r T O X Y) (hh : ∀ x, x ∈ X → ∀ y, y ∈ Y → r x y) : (O ++ X ++ Y).Pairwise r ∧ (O ++ X ++ Y).Perm T := by
  refine ⟨List.pairwise_append.mpr ⟨List.pairwise_append.mpr ⟨h.so, h.sx, h.ox⟩, h.sy, fun o ho y hy => ?_⟩, h.pm⟩
  rcases List.mem_append.mp ho with ho | ho
  · exact h.oy o ho y hy
  · exact hh o ho y hy
theorem MInv.endY (h : MInv r T O X Y) (hh : ∀ y, y ∈ Y → ∀ x, x ∈ X → r y x) : (O ++ Y ++ X).Pairwise r ∧ (O ++ Y ++ X).Perm T := h.swap.endX hh
theorem MInv.headX {x : α} (h : MInv r T O (x :: X) Y) : ∀ x', x' ∈ X → r x x' := (List.pairwise_cons.mp h.sx).1
theorem MInv.headY {y : α} (h : MInv r T O X (y :: Y)) : ∀ y', y' ∈ Y → r y y' := (List.pairwise_cons.mp h.sy).1
end
end L3

/-! the sort's gallop: the boundary of what is true first and false behind. -/
namespace L3
open PySem PyProof.Rows
section
variable {κ : KeyKind} {prog : Program} {w : World} {A : Around} {E : Value → Shared → Prop} {s : Shared}
def ky (κ : KeyKind) (p : Keyed) : κ.α := (κ.keyOf p.1).getD κ.dflt
def Rk (κ : KeyKind) (p q : Keyed) : Prop := κ.kle (ky κ p) (ky κ q)
def Ko (κ : KeyKind) (p : Keyed) : Prop := ∃ a, κ.keyOf p.1 = some a
theorem Ko.eq {p : Keyed} (h : Ko κ p) : κ.keyOf p.1 = some (ky κ p) := by
  obtain ⟨a, h⟩ := h
  unfold ky; rw [h]; rfl
theorem Rk.of_lt {p q : Keyed} (h : κ.blt (ky κ p) (ky κ q) = true) : Rk κ p q := KeyOrd.klt_asymm h
theorem Rk.trans {p q t : Keyed} (h : Rk κ p q) (h' : Rk κ q t) : Rk κ p t := KeyOrd.kle_trans h h'
theorem wpS_lt2 (hO : κ.OneLt) {st : SortSt} {x y : Keyed} {Q : Option Bool → SortSt → Prop} (hk : kindOf st = oneType') (hx : Ko κ x) (hy : Ko κ y)
    (h : Q (some (κ.blt (ky κ x) (ky κ y))) st) : wpS (model prog w) A E s (lt' x y) Q st := by
  rw [lt'_eq]
  refine wpS_bind (wpS_get ?_)
  rw [hk, keyLt'_oneType]
  exact wpS_bind (wpS_lift (wpAny_attempt (hO prog w A _ s _ _ _ _ hx.eq hy.eq ⟨rfl, wpS_pure h⟩)))
theorem wpS_elem {M : Model} {st : SortSt} {arr : Array Keyed} {i : Nat} {p : Keyed} {Q : Keyed → SortSt → Prop} (hi : arr[i]? = some p) (h : Q p st) : wpS M A E s (elem' arr i) Q st := by
  rw [elem'_eq, hi]; exact wpS_pure h
def gallop' : Bool → Keyed → Array Keyed → Nat → Nat → Nat → StateT SortSt Sem (Option Nat) := sortPriv% PySem.Builtin.gallop
theorem wpS_gallop {M : Model} {left : Bool} {key : Keyed} {arr : Array Keyed} {base n hint : Nat} {st : SortSt} {P : Nat → Bool} (hh : hint < n)
    (hb : ∀ i, i < n → ∃ p, arr[base + i]? = some p ∧ ∀ {Q : Option Bool → SortSt → Prop}, Q (some (P i)) st → wpS M A E s (if left then lt' p key else do return (← lt' key p).map (!·)) Q st)
    (mono : ∀ i j, i ≤ j → j < n → P j = true → P i = true) {Q : Option Nat → SortSt → Prop}
    (h : ∀ c, c ≤ n → (∀ i, i < c → P i = true) → (∀ i, c ≤ i → i < n → P i = false) → Q (some c) st) : wpS M A E s (gallop' left key arr base n hint) Q st := by
  have mono2 : ∀ i j, i ≤ j → j < n → P i = false → P j = false := fun i j h1 h2 h3 => by
    cases c : P j with
    | false => rfl
    | true => rw [mono i j h1 h2 c] at h3; cases h3
  have hb' : ∀ i, i < n → ∀ {Q : Option Bool → SortSt → Prop}, Q (some (P i)) st → wpS M A E s (do
      let x ← elem' arr (base + i)
      if left = true then lt' x key else do
        let y ← lt' key x
        pure (Option.map (fun x => !x) y)) Q st := fun i hi Q hq => by
    obtain ⟨p, hp, hb⟩ := hb i hi
    exact wpS_bind (wpS_elem hp (hb hq))
  clear hb
  delta gallop'
  refine wpS_bind (hb' hint hh ?_)
  dsimp -zeta only
  extract_lets +onlyGivenNames jp
  have fin : ∀ l o lo hi : Nat, lo ≤ hi → hi ≤ n → (∀ i, i < lo → P i = true) → (∀ i, hi ≤ i → i < n → P i = false) → wpS M A E s (jp () l o lo hi) Q st := by
    intro _ _ lo hi h1 h2 h3 h4
    refine wpS_bind (wpS_mono (wpS_forRange (a := 0) (b := n) (I := fun x c st' => st' = st ∧ ∃ lo hi : Nat, c = (none, lo, hi) ∧ lo ≤ hi ∧ hi ≤ n ∧ hi - lo ≤ n - x ∧ (∀ i, i < lo → P i = true) ∧ (∀ i, hi ≤ i → i < n → P i = false))
      (Q := fun c st' => st' = st ∧ ∃ lo hi : Nat, c = (none, lo, hi) ∧ hi ≤ n ∧ (∀ i, i < hi → P i = true) ∧ (∀ i, hi ≤ i → i < n → P i = false)) ?step0 ?fin0 ⟨rfl, lo, hi, rfl, h1, h2, by omega, h3, h4⟩) ?post0)
    case post0 =>
      rintro c st' ⟨rfl, lo, hi, rfl, a, b, d⟩
      exact wpS_pure (h hi a b d)
    case fin0 =>
      rintro c st' ⟨rfl, lo, hi, rfl, a, b, d, e, f⟩
      have : lo = hi := by omega
      subst this
      exact ⟨rfl, lo, lo, rfl, b, e, f⟩
    case step0 =>
      rintro x c st' _ hx ⟨rfl, lo, hi, rfl, a, b, d, e, f⟩
      dsimp only
      by_cases hge : lo ≥ hi
      · rw [if_pos hge]
        have : lo = hi := by omega
        subst this
        exact wpS_pure ⟨rfl, lo, lo, rfl, b, e, f⟩
      · rw [if_neg hge]
        refine wpS_bind (hb' _ (by omega) ?_)
        cases hm : P (lo + (hi - lo) / 2) with
        | true => exact wpS_pure ⟨rfl, _, hi, rfl, by omega, b, by omega, fun i hi' => mono i (lo + (hi - lo) / 2) (by omega) (by omega) hm, f⟩
        | false => exact wpS_pure ⟨rfl, lo, _, rfl, by omega, by omega, by omega, e, fun i h5 h6 => mono2 _ i h5 h6 hm⟩
  clear_value jp
  cases hr : P hint with
  | true =>
    rw [if_pos rfl]
    refine wpS_bind (wpS_mono (wpS_forRange (a := 0) (b := n) (I := fun x c st' => st' = st ∧ ∃ l o : Nat, c = (none, l, o) ∧ hint + l < n ∧ P (hint + l) = true ∧ l < o ∧ x + 1 ≤ o)
      (Q := fun c st' => st' = st ∧ ∃ l o : Nat, c = (none, l, o) ∧ hint + l < n ∧ P (hint + l) = true ∧ l < o ∧ (o ≥ n - hint ∨ P (hint + o) = false)) ?step ?fin ⟨rfl, 0, 1, rfl, hh, hr, by omega, by omega⟩) ?post)
    case post =>
      rintro c st' ⟨rfl, l, o, rfl, a, b, d, e⟩
      refine fin _ _ (hint + l + 1) (hint + min o (n - hint)) (by omega) (by omega) (fun i hi => mono i (hint + l) (by omega) a b) fun i h1 h2 => ?_
      rcases e with e | e
      · exfalso; omega
      · by_cases c : o ≥ n - hint
        · exfalso; omega
        · exact mono2 (hint + o) i (by omega) h2 e
    case fin =>
      rintro c st' ⟨rfl, l, o, rfl, a, b, d, e⟩
      exact ⟨rfl, l, o, rfl, a, b, d, .inl (by omega)⟩
    case step =>
      rintro x c st' _ hx ⟨rfl, l, o, rfl, a, b, d, e⟩
      dsimp only
      by_cases hge : o ≥ n - hint
      · rw [if_pos hge]
        exact wpS_pure ⟨rfl, l, o, rfl, a, b, d, .inl hge⟩
      · rw [if_neg hge]
        refine wpS_bind (hb' _ (by omega) ?_)
        cases hm : P (hint + o) with
        | true => exact wpS_pure ⟨rfl, o, 2 * o + 1, rfl, by omega, hm, by omega, by omega⟩
        | false => exact wpS_pure ⟨rfl, l, o, rfl, a, b, d, .inr hm⟩
  | false =>
    rw [if_neg (by decide)]
    refine wpS_bind (wpS_mono (wpS_forRange (a := 0) (b := n) (I := fun x c st' => st' = st ∧ ∃ l o : Nat, c = (none, l, o) ∧ l ≤ hint ∧ P (hint - l) = false ∧ l < o ∧ x + 1 ≤ o)
      (Q := fun c st' => st' = st ∧ ∃ l o : Nat, c = (none, l, o) ∧ l ≤ hint ∧ P (hint - l) = false ∧ l < o ∧ (o ≥ hint + 1 ∨ P (hint - o) = true)) ?step2 ?fin2 ⟨rfl, 0, 1, rfl, by omega, hr, by omega, by omega⟩) ?post2)
    case post2 =>
      rintro c st' ⟨rfl, l, o, rfl, a, b, d, e⟩
      refine fin _ _ (hint + 1 - min o (hint + 1)) (hint - l) (by omega) (by omega) (fun i hi => ?_) fun i h1 h2 => mono2 (hint - l) i h1 h2 b
      rcases e with e | e
      · exfalso; omega
      · by_cases c : o ≥ hint + 1
        · exfalso; omega
        · exact mono i (hint - o) (by omega) (by omega) e
    case fin2 =>
      rintro c st' ⟨rfl, l, o, rfl, a, b, d, e⟩
      exact ⟨rfl, l, o, rfl, a, b, d, .inl (by omega)⟩
    case step2 =>
      rintro x c st' _ hx ⟨rfl, l, o, rfl, a, b, d, e⟩
      dsimp only
      by_cases hge : o ≥ hint + 1
      · rw [if_pos hge]
        exact wpS_pure ⟨rfl, l, o, rfl, a, b, d, .inl hge⟩
      · rw [if_neg hge]
        refine wpS_bind (hb' _ (by omega) ?_)
        cases hm : P (hint - o) with
        | true => exact wpS_pure ⟨rfl, l, o, rfl, a, b, d, .inr hm⟩
        | false => exact wpS_pure ⟨rfl, o, 2 * o + 1, rfl, by omega, hm, by omega, by omega⟩
def bpK (κ : KeyKind) (left : Bool) (key p : Keyed) : Bool := if left then κ.blt (ky κ p) (ky κ key) else !κ.blt (ky κ key) (ky κ p)
theorem bpK_mono {left : Bool} {key p q : Keyed} (h : Rk κ p q) (hq : bpK κ left key q = true) : bpK κ left key p = true := by
  unfold bpK at hq ⊢
  cases left with
  | true => exact KeyOrd.klt_of_kle_of_klt h hq
  | false =>
    simp only [Bool.false_eq_true, if_false, Bool.not_eq_true'] at hq ⊢
    exact KeyOrd.kle_trans h hq
theorem wpS_gallopK (hO : κ.OneLt) {left : Bool} {key : Keyed} {arr : Array Keyed} {base n hint : Nat} {st : SortSt} {L : List Keyed} (hk : kindOf st = oneType') (hkey : Ko κ key) (hL : ∀ p, p ∈ L → Ko κ p)
    (hn : L.length = n) (ha : ∀ i, i < n → arr[base + i]? = L[i]?) (srt : L.Pairwise (Rk κ)) (hh : hint < n) {Q : Option Nat → SortSt → Prop}
    (h : ∀ c, c ≤ n → (∀ p, p ∈ L.take c → bpK κ left key p = true) → (∀ p, p ∈ L.drop c → bpK κ left key p = false) → Q (some c) st) : wpS (model prog w) A E s (gallop' left key arr base n hint) Q st := by
  subst hn
  have hg : ∀ i (hi : i < L.length), L[i]? = some L[i] := fun i hi => List.getElem?_eq_getElem hi
  refine wpS_gallop (P := fun i => match L[i]? with | some p => bpK κ left key p | none => false) hh (fun i hi => ⟨L[i], by rw [ha i hi, hg i hi], fun {Q} hq => ?_⟩) (fun i j hij hj hp => ?_) fun c hc h1 h2 => h c hc ?_ ?_
  · rw [hg i hi] at hq
    have ko := hL L[i] (List.getElem_mem hi)
    cases left with
    | true => exact wpS_lt2 hO hk ko hkey hq
    | false => exact wpS_bind (wpS_lt2 hO hk hkey ko (wpS_pure hq))
  · rw [hg j hj] at hp
    rw [hg i (by omega)]
    by_cases e : i = j
    · subst e; exact hp
    · exact bpK_mono (List.pairwise_iff_getElem.mp srt i j (by omega) hj (by omega)) hp
  · intro p hp
    obtain ⟨i, hi, rfl⟩ := List.mem_iff_getElem.mp hp
    have := List.length_take_le c L
    have hi' : i < L.length := by rw [List.length_take] at hi; omega
    have e := h1 i (by rw [List.length_take] at hi; omega)
    rw [hg i hi'] at e
    rw [List.getElem_take]; exact e
  · intro p hp
    obtain ⟨i, hi, rfl⟩ := List.mem_iff_getElem.mp hp
    rw [List.length_drop] at hi
    have e := h2 (c + i) (by omega) (by omega)
    rw [hg (c + i) (by omega)] at e
    rw [List.getElem_drop]; exact e
end
end L3

/-! merging from the front. -/
namespace L3
open PySem PyProof.Rows
section
variable {κ : KeyKind} {prog : Program} {w : World} {A : Around} {E : Value → Shared → Prop} {s : Shared}
def Sm (st st' : SortSt) : Prop := kindOf st' = kindOf st ∧ arrOf st' = arrOf st ∧ pendingOf st' = pendingOf st ∧ failedOf st' = failedOf st
abbrev setGal (st : SortSt) (g : Nat) : SortSt := SortSt.mk' (kindOf st) (arrOf st) (pendingOf st) g (failedOf st)
theorem Sm.refl (st : SortSt) : Sm st st := ⟨rfl, rfl, rfl, rfl⟩
theorem ar_drop {α : Type} {a : Array α} {i : Nat} {p : α} (h : a[i]? = some p) : a.toList.drop i = p :: a.toList.drop (i + 1) := by
  rw [← Array.getElem?_toList] at h
  obtain ⟨hi, e⟩ := List.getElem?_eq_some_iff.mp h
  rw [List.drop_eq_getElem_cons hi, e]
theorem ar_some {α : Type} {a : Array α} {i : Nat} (h : i < a.size) : ∃ p, a[i]? = some p := ⟨a[i], getElem?_pos a i h⟩
theorem ar_cut {α : Type} (l : List α) (i k : Nat) : l.drop i = (l.drop i).take k ++ l.drop (i + k) := by
  rw [← List.drop_drop, List.take_append_drop]
theorem ar_ext {α : Type} (a : Array α) (i k : Nat) : (a.extract i (i + k)).toList = (a.toList.drop i).take k := by
  rw [Array.toList_extract, List.extract_eq_take_drop, Nat.add_sub_cancel_left]
theorem ar_ext2 {α : Type} (a : Array α) (i : Nat) : (a.extract i a.size).toList = a.toList.drop i := by
  rw [Array.toList_extract, List.extract_eq_take_drop, List.take_of_length_le (by rw [List.length_drop, Array.length_toList]; exact Nat.le_refl _)]
theorem ar_mem {α : Type} {a : Array α} {i : Nat} {p : α} (h : a[i]? = some p) : p ∈ a.toList := by
  rw [← Array.getElem?_toList] at h
  exact List.mem_of_getElem? h
def Gd (κ : KeyKind) (T : List Keyed) (r : Array Keyed) : Prop := r.toList.Pairwise (Rk κ) ∧ r.toList.Perm T
structure Lo (κ : KeyKind) (a b : Array Keyed) (o : Array Keyed) (ia ib : Nat) : Prop where
  na : ia + 1 < a.size
  nb : ib < b.size
  inv : MInv (Rk κ) (a.toList ++ b.toList) o.toList (a.toList.drop ia) (b.toList.drop ib)
section
variable {a b o : Array Keyed} {ia ib : Nat}
abbrev LoI (κ : KeyKind) (a b o : Array Keyed) (ia ib : Nat) : Prop := MInv (Rk κ) (a.toList ++ b.toList) o.toList (a.toList.drop ia) (b.toList.drop ib)
theorem Lo.done (h : LoI κ a b o ia ib) (e : ib = b.size ∨ ia = a.size) : Gd κ (a.toList ++ b.toList) (o ++ a.extract ia a.size ++ b.extract ib b.size) := by
  unfold Gd
  rw [Array.toList_append, Array.toList_append, ar_ext2, ar_ext2]
  refine h.endX fun x hx y hy => ?_
  rcases e with e | e
  · rw [List.drop_eq_nil_of_le (by rw [Array.length_toList]; omega)] at hy; cases hy
  · rw [List.drop_eq_nil_of_le (by rw [Array.length_toList]; omega)] at hx; cases hx
theorem Lo.last (h : LoI κ a b o ia ib) (e : ia + 1 = a.size) (hl : ∀ p, a[a.size - 1]? = some p → ∀ y, y ∈ b.toList → Rk κ y p) : Gd κ (a.toList ++ b.toList) (o ++ b.extract ib b.size ++ a.extract ia a.size) := by
  unfold Gd
  rw [Array.toList_append, Array.toList_append, ar_ext2, ar_ext2]
  obtain ⟨p, hp⟩ := ar_some (a := a) (i := ia) (by omega)
  refine h.endY fun y hy x hx => ?_
  rw [ar_drop hp, List.drop_eq_nil_of_le (by rw [Array.length_toList]; omega)] at hx
  rw [List.mem_singleton.mp hx]
  exact hl p (by rw [← e]; exact hp) y (List.mem_of_mem_drop hy)
theorem Lo.pushB {p : Keyed} (h : LoI κ a b o ia ib) (hp : b[ib]? = some p) (hx : ∀ x, x ∈ a.toList.drop ia → Rk κ p x) : LoI κ a b (o.push p) ia (ib + 1) := by
  unfold LoI at h ⊢
  rw [ar_drop hp] at h
  rw [Array.toList_push]
  exact MInv.takeY (Y1 := [p]) h fun y hy x hx' => by rw [List.mem_singleton.mp hy]; exact hx x hx'
theorem Lo.pushA {p : Keyed} (h : LoI κ a b o ia ib) (hp : a[ia]? = some p) (hy : ∀ y, y ∈ b.toList.drop ib → Rk κ p y) : LoI κ a b (o.push p) (ia + 1) ib := by
  unfold LoI at h ⊢
  rw [ar_drop hp] at h
  rw [Array.toList_push]
  exact MInv.takeX (X1 := [p]) h fun x hx y hy' => by rw [List.mem_singleton.mp hx]; exact hy y hy'
theorem Lo.moreA {k : Nat} (h : LoI κ a b o ia ib) (hx : ∀ x, x ∈ (a.toList.drop ia).take k → ∀ y, y ∈ b.toList.drop ib → Rk κ x y) : LoI κ a b (o ++ a.extract ia (ia + k)) (ia + k) ib := by
  unfold LoI at h ⊢
  rw [ar_cut a.toList ia k] at h
  rw [Array.toList_append, ar_ext]
  exact MInv.takeX h hx
theorem Lo.moreB {k : Nat} (h : LoI κ a b o ia ib) (hy : ∀ y, y ∈ (b.toList.drop ib).take k → ∀ x, x ∈ a.toList.drop ia → Rk κ y x) : LoI κ a b (o ++ b.extract ib (ib + k)) ia (ib + k) := by
  unfold LoI at h ⊢
  rw [ar_cut b.toList ib k] at h
  rw [Array.toList_append, ar_ext]
  exact MInv.takeY h hy
theorem Lo.leA {p : Keyed} (h : LoI κ a b o ia ib) (hp : a[ia]? = some p) : ∀ x, x ∈ a.toList.drop ia → Rk κ p x := by
  unfold LoI at h
  rw [ar_drop hp] at h ⊢
  intro x hx
  rcases List.mem_cons.mp hx with rfl | hx
  · exact KeyOrd.kle_refl _
  · exact h.headX x hx
theorem Lo.leB {p : Keyed} (h : LoI κ a b o ia ib) (hp : b[ib]? = some p) : ∀ y, y ∈ b.toList.drop ib → Rk κ p y := by
  unfold LoI at h
  rw [ar_drop hp] at h ⊢
  intro x hx
  rcases List.mem_cons.mp hx with rfl | hx
  · exact KeyOrd.kle_refl _
  · exact h.headY x hx
end
theorem bpK_rt {key p : Keyed} (h : bpK κ false key p = true) : Rk κ p key := by
  unfold bpK at h; exact show κ.blt (ky κ key) (ky κ p) = false by simpa using h
theorem bpK_rf {key p : Keyed} (h : bpK κ false key p = false) : Rk κ key p := by
  unfold bpK at h; exact Rk.of_lt (by simpa using h)
theorem bpK_lt {key p : Keyed} (h : bpK κ true key p = true) : Rk κ p key := by
  unfold bpK at h; exact Rk.of_lt (by simpa using h)
theorem bpK_lf {key p : Keyed} (h : bpK κ true key p = false) : Rk κ key p := by
  unfold bpK at h; exact show κ.blt (ky κ p) (ky κ key) = false by simpa using h
theorem ar_slice {α : Type} (a : Array α) (i k : Nat) : a[i + k]? = (a.toList.drop i)[k]? := by rw [List.getElem?_drop, Array.getElem?_toList]
abbrev LoC := Option (Array Keyed) × Array Keyed × Nat × Nat × Nat × Nat × Nat
def LoQ (κ : KeyKind) (a b : Array Keyed) (st : SortSt) (n n' : Nat) : ForInStep LoC → SortSt → Prop
  | .done c', st' => Sm st st' ∧ ∃ r o ka kb mg ac bc, c' = (r, o, ka, kb, mg, ac, bc) ∧ ((∃ g, r = some g ∧ Gd κ (a.toList ++ b.toList) g) ∨ r = none ∧ Lo κ a b o ka kb ∧ n ≤ ka + kb)
  | .yield c', st' => Sm st st' ∧ ∃ o ka kb mg ac bc, c' = (none, o, ka, kb, mg, ac, bc) ∧ Lo κ a b o ka kb ∧ n' ≤ ka + kb
def mergeLo' : Array Keyed → Array Keyed → StateT SortSt Sem (Array Keyed) := sortPriv% PySem.Builtin.mergeLo
theorem wpS_mergeLo (hO : κ.OneLt) {a b : Array Keyed} {st : SortSt} (hk : kindOf st = oneType') (ka : ∀ p, p ∈ a.toList → Ko κ p) (kb : ∀ p, p ∈ b.toList → Ko κ p) (sa : a.toList.Pairwise (Rk κ)) (sb : b.toList.Pairwise (Rk κ))
    (na : 0 < a.size) (nb : 0 < b.size) (hf : ∀ p, b[0]? = some p → ∀ x, x ∈ a.toList → Rk κ p x) (hl : ∀ p, a[a.size - 1]? = some p → ∀ y, y ∈ b.toList → Rk κ y p) {Q : Array Keyed → SortSt → Prop}
    (h : ∀ o st', Sm st st' → Gd κ (a.toList ++ b.toList) o → Q o st') : wpS (model prog w) A E s (mergeLo' a b) Q st := by
  delta mergeLo'
  refine wpS_bind (wpS_lift (wpAny_rule ⟨rfl, ?_⟩))
  extract_lets +onlyGivenNames total done last
  obtain ⟨b0, hb0⟩ := ar_some nb
  refine wpS_bind (wpS_elem hb0 ?_)
  have i0 : LoI κ a b #[] 0 0 := ⟨List.Pairwise.nil, sa, sb, (fun o ho => nomatch ho), (fun o ho => nomatch ho), List.Perm.refl _⟩
  have i1 : LoI κ a b #[b0] 0 1 := Lo.pushB i0 hb0 fun x hx => hf b0 hb0 x hx
  extract_lets +onlyGivenNames out ia ib
  by_cases c1 : (ib == b.size) = true
  · rw [if_pos c1]
    exact wpS_pure (h _ _ (Sm.refl _) (Lo.done i1 (.inl (by simpa using c1))))
  rw [if_neg c1]
  by_cases c2 : (ia + 1 == a.size) = true
  · rw [if_pos c2]
    exact wpS_pure (h _ _ (Sm.refl _) (Lo.last i1 (by simpa using c2) hl))
  rw [if_neg c2]
  refine wpS_bind (wpS_get ?_)
  have l1 : Lo κ a b #[b0] 0 1 := ⟨by have : ¬ 0 + 1 = a.size := by simpa using c2
                                      omega, by have : ¬ 1 = b.size := by simpa using c1
                                                omega, i1⟩
  have tot : total = a.size + b.size := rfl
  clear_value total
  refine wpS_bind (wpS_mono (wpS_forRange (a := 0) (b := total) (I := fun x c st' => Sm st st' ∧ ∃ o ia ib mg, c = (none, o, ia, ib, mg) ∧ Lo κ a b o ia ib ∧ x ≤ ia + ib)
    (Q := fun c st' => Sm st st' ∧ ∃ g o ia ib mg, c = (some g, o, ia, ib, mg) ∧ Gd κ (a.toList ++ b.toList) g) ?step ?fin ⟨Sm.refl _, _, _, _, _, rfl, l1, by omega⟩) ?post)
  case post =>
    rintro c st' ⟨sm, g, o, ia, ib, mg, rfl, hg⟩
    exact wpS_pure (h _ _ sm hg)
  case fin =>
    rintro c st' ⟨sm, o, ia, ib, mg, rfl, l, hx⟩
    have := l.na; have := l.nb
    exfalso; omega
  case step =>
    rintro x c st1 _ hx ⟨sm, o, ia, ib, mg, rfl, l, hxx⟩
    have hk1 : kindOf st1 = oneType' := sm.1.trans hk
    refine wpS_bind (wpS_mono (wpS_forRange (a := 0) (b := total) (I := fun x c st' => st' = st1 ∧ ∃ o ja jb ac bc, c = (none, o, ja, jb, ac, bc) ∧ Lo κ a b o ja jb ∧ ia + ib + x ≤ ja + jb)
      (Q := fun c st' => st' = st1 ∧ ∃ r o ja jb ac bc, c = (r, o, ja, jb, ac, bc) ∧ ((∃ g, r = some g ∧ Gd κ (a.toList ++ b.toList) g) ∨ (r = none ∧ Lo κ a b o ja jb ∧ ia + ib + 1 ≤ ja + jb))) ?step1 ?fin1 ⟨rfl, _, _, _, _, _, rfl, l, Nat.le_refl _⟩) ?post1)
    case fin1 =>
      rintro c st' ⟨rfl, o, ja, jb, ac, bc, rfl, l, hx⟩
      have := l.na; have := l.nb
      exfalso; omega
    case step1 =>
      rintro y c st2 _ hy ⟨rfl, o, ja, jb, ac, bc, rfl, l, hyy⟩
      have n1 := l.na
      have n2 := l.nb
      obtain ⟨p, hp⟩ := ar_some (a := b) (i := jb) n2
      obtain ⟨q, hq⟩ := ar_some (a := a) (i := ja) (by omega)
      refine wpS_bind (wpS_elem hp (wpS_bind (wpS_elem hq (wpS_bind (wpS_lt2 hO hk1 (kb p (ar_mem hp)) (ka q (ar_mem hq)) ?_)))))
      dsimp -zeta only
      cases hw : κ.blt (ky κ p) (ky κ q) with
      | true =>
        rw [if_pos rfl]
        refine wpS_bind (wpS_elem hp ?_)
        have inv := Lo.pushB l.inv hp fun x hx => (Rk.of_lt hw).trans (Lo.leA l.inv hq x hx)
        dsimp only
        by_cases c : (jb + 1 == b.size) = true
        · rw [if_pos c]
          exact wpS_pure ⟨rfl, _, _, _, _, _, _, rfl, .inl ⟨_, rfl, Lo.done inv (.inl (by simpa using c))⟩⟩
        rw [if_neg c]
        have n3 : ¬ jb + 1 = b.size := by simpa using c
        have l' : Lo κ a b (o.push p) ja (jb + 1) := ⟨n1, by omega, inv⟩
        by_cases c : bc + 1 ≥ mg
        · rw [if_pos c]
          exact wpS_pure ⟨rfl, _, _, _, _, _, _, rfl, .inr ⟨rfl, l', by omega⟩⟩
        · rw [if_neg c]
          exact wpS_pure ⟨rfl, _, _, _, _, _, rfl, l', by omega⟩
      | false =>
        rw [if_neg (by decide)]
        refine wpS_bind (wpS_elem hq ?_)
        have inv := Lo.pushA l.inv hq fun y hy => Rk.trans (show Rk κ q p from hw) (Lo.leB l.inv hp y hy)
        dsimp only
        by_cases c : (ja + 1 + 1 == a.size) = true
        · rw [if_pos c]
          exact wpS_pure ⟨rfl, _, _, _, _, _, _, rfl, .inl ⟨_, rfl, Lo.last inv (by simpa using c) hl⟩⟩
        rw [if_neg c]
        have n3 : ¬ ja + 1 + 1 = a.size := by simpa using c
        have l' : Lo κ a b (o.push q) (ja + 1) jb := ⟨by omega, n2, inv⟩
        by_cases c : ac + 1 ≥ mg
        · rw [if_pos c]
          exact wpS_pure ⟨rfl, _, _, _, _, _, _, rfl, .inr ⟨rfl, l', by omega⟩⟩
        · rw [if_neg c]
          exact wpS_pure ⟨rfl, _, _, _, _, _, rfl, l', by omega⟩
    case post1 =>
      rintro c st2 ⟨rfl, r, o, ja, jb, ac, bc, rfl, ⟨g, rfl, hg⟩ | ⟨rfl, l, hj⟩⟩
      · exact wpS_pure ⟨sm, _, _, _, _, _, rfl, hg⟩
      refine wpS_bind (wpS_lift (wpAny_rule ⟨rfl, ?_⟩))
      refine wpS_bind (wpS_mono (wpS_forRange (a := 0) (b := total) (I := fun x c st' => Sm st st' ∧ ∃ o ka kb mg ac bc, c = (none, o, ka, kb, mg, ac, bc) ∧ Lo κ a b o ka kb ∧ ja + jb + x ≤ ka + kb)
        (Q := fun c st' => Sm st st' ∧ ∃ r o ka kb mg ac bc, c = (r, o, ka, kb, mg, ac, bc) ∧ ((∃ g, r = some g ∧ Gd κ (a.toList ++ b.toList) g) ∨ (r = none ∧ Lo κ a b o ka kb ∧ ja + jb ≤ ka + kb))) ?step2 ?fin2 ⟨sm, _, _, _, _, _, _, rfl, l, Nat.le_refl _⟩) ?post2)
      case fin2 =>
        rintro c st' ⟨sm, o, ja, jb, mg, ac, bc, rfl, l, hx⟩
        have := l.na; have := l.nb
        exfalso; omega
      case post2 =>
        rintro c st2 ⟨sm, r, o, ka, kb, mg, ac, bc, rfl, ⟨g, rfl, hg⟩ | ⟨rfl, l, hj⟩⟩
        · exact wpS_pure ⟨sm, _, _, _, _, _, rfl, hg⟩
        · exact wpS_bind (wpS_modify (wpS_pure ⟨sm, _, _, _, _, rfl, l, show x + 1 ≤ ka + kb by omega⟩))
      case step2 =>
        rintro y c st2 _ hy ⟨sm, o, ja', jb', mg, ac, bc, rfl, l, hyy⟩
        dsimp -zeta only
        extract_lets +onlyGivenNames z1 o z2 ia z3 ib z4 mg z5 ac bc ib2 jp
        have n1 := l.na
        have n2 := l.nb
        obtain ⟨p, hp⟩ := ar_some (a := b) (i := jb') n2
        refine wpS_mono (Q := LoQ κ a b st (ja + jb) (ja + jb + (y + 1))) ?_ fun r st' h => by cases r <;> exact h
        have step : ∀ m, wpS (model prog w) A E s (jp () m) (LoQ κ a b st (ja + jb) (ja + jb + (y + 1))) st2 := by
          intro m
          refine wpS_bind (wpS_modify ?_)
          have sm3 : Sm st (setGal st2 m) := sm
          show wpS (model prog w) A E s _ _ (setGal st2 m)
          generalize setGal st2 m = st3 at sm3 ⊢
          have hk2 : kindOf st3 = oneType' := sm3.1.trans hk
          refine wpS_bind (wpS_elem (i := jb') hp ?_)
          refine wpS_bind (wpS_gallopK (κ := κ) hO (n := a.size - ja') (hint := 0) (L := a.toList.drop ja') hk2 (kb p (ar_mem hp)) (fun q hq => ka q (List.mem_of_mem_drop hq)) (by rw [List.length_drop, Array.length_toList]) (fun i _ => ar_slice a ja' i) l.inv.sx (by omega) ?_)
          intro k hk3 kt kf
          dsimp -zeta only
          extract_lets +onlyGivenNames acount jp2
          have step2 : ∀ (o' : Array Keyed) (ia' : Nat), ia' + 1 < a.size → ja' ≤ ia' → LoI κ a b o' ia' jb' → (∀ x, x ∈ a.toList.drop ia' → Rk κ p x) → wpS (model prog w) A E s (jp2 () o' ia') (LoQ κ a b st (ja + jb) (ja + jb + (y + 1))) st3 := by
            intro o' ia' ha' hle hi hx
            refine wpS_bind (wpS_elem (i := jb') hp ?_)
            have inv2 := Lo.pushB hi hp hx
            extract_lets +onlyGivenNames out2
            by_cases c : (ib2 == b.size) = true
            · rw [if_pos c]
              exact wpS_pure ⟨sm3, _, _, _, _, _, _, _, rfl, .inl ⟨_, rfl, Lo.done inv2 (.inl (eq_of_beq c))⟩⟩
            rw [if_neg c]
            have n3 : ¬ jb' + 1 = b.size := fun e => c (beq_iff_eq.mpr e)
            obtain ⟨q, hq⟩ := ar_some (a := a) (i := ia') (by omega)
            refine wpS_bind (wpS_elem hq ?_)
            refine wpS_bind (wpS_gallopK (κ := κ) hO (n := b.size - (jb' + 1)) (hint := 0) (L := b.toList.drop (jb' + 1)) hk2 (ka q (ar_mem hq)) (fun q hq => kb q (List.mem_of_mem_drop hq)) (by rw [List.length_drop, Array.length_toList]) (fun i _ => ar_slice b (jb' + 1) i) inv2.sy (by omega) ?_)
            intro k2 hk4 kt2 kf2
            dsimp -zeta only
            extract_lets +onlyGivenNames bcount ia4 jp3
            have step3 : ∀ (o3 : Array Keyed) (ib3 : Nat), ib3 < b.size → jb' + 1 ≤ ib3 → LoI κ a b o3 ia' ib3 → (∀ y, y ∈ b.toList.drop ib3 → Rk κ q y) → wpS (model prog w) A E s (jp3 () o3 ib3) (LoQ κ a b st (ja + jb) (ja + jb + (y + 1))) st3 := by
              intro o3 ib3 hb3 hle3 hi3 hy3
              refine wpS_bind (wpS_elem hq ?_)
              have inv3 := Lo.pushA hi3 hq hy3
              extract_lets +onlyGivenNames out4
              by_cases c : (ia4 + 1 == a.size) = true
              · rw [if_pos c]
                exact wpS_pure ⟨sm3, _, _, _, _, _, _, _, rfl, .inl ⟨_, rfl, Lo.last inv3 (eq_of_beq c) hl⟩⟩
              rw [if_neg c]
              have n4 : ¬ ia' + 1 + 1 = a.size := fun e => c (beq_iff_eq.mpr e)
              have l' : Lo κ a b (o3.push q) (ia' + 1) ib3 := ⟨by omega, hb3, inv3⟩
              by_cases c : (decide (acount < 7) && decide (bcount < 7)) = true
              · rw [if_pos c]
                exact wpS_pure ⟨sm3, _, _, _, _, _, _, _, rfl, .inr ⟨rfl, l', by omega⟩⟩
              · rw [if_neg c]
                exact wpS_pure ⟨sm3, _, _, _, _, _, _, rfl, l', by omega⟩
            clear_value jp3
            by_cases c : k2 > 0
            · rw [if_pos c]
              have inv3 := Lo.moreB inv2 fun y hy x hx => (bpK_lt (kt2 y hy)).trans (Lo.leA hi hq x hx)
              extract_lets +onlyGivenNames out5 ib5
              by_cases c : (ib5 == b.size) = true
              · rw [if_pos c]
                exact wpS_pure ⟨sm3, _, _, _, _, _, _, _, rfl, .inl ⟨_, rfl, Lo.done inv3 (.inl (eq_of_beq c))⟩⟩
              rw [if_neg c]
              have n4 : ¬ jb' + 1 + k2 = b.size := fun e => c (beq_iff_eq.mpr e)
              exact step3 _ _ (show jb' + 1 + k2 < b.size by omega) (show jb' + 1 ≤ jb' + 1 + k2 by omega) inv3 fun y hy => bpK_lf (kf2 y (by rw [List.drop_drop]; exact hy))
            · rw [if_neg c]
              have : k2 = 0 := by omega
              subst this
              exact step3 _ _ (show jb' + 1 < b.size by omega) (Nat.le_refl _) inv2 fun y hy => bpK_lf (kf2 y hy)
          clear_value jp2
          by_cases c : k > 0
          · rw [if_pos c]
            have inv1 := Lo.moreA l.inv fun x hx y hy => (bpK_rt (kt x hx)).trans (Lo.leB l.inv hp y hy)
            extract_lets +onlyGivenNames out5 ia5
            by_cases c : (ia5 + 1 == a.size) = true
            · rw [if_pos c]
              exact wpS_pure ⟨sm3, _, _, _, _, _, _, _, rfl, .inl ⟨_, rfl, Lo.last inv1 (eq_of_beq c) hl⟩⟩
            rw [if_neg c]
            by_cases c' : (ia5 == a.size) = true
            · rw [if_pos c']
              exact wpS_pure ⟨sm3, _, _, _, _, _, _, _, rfl, .inl ⟨_, rfl, Lo.done inv1 (.inr (eq_of_beq c'))⟩⟩
            rw [if_neg c']
            have n4 : ¬ ja' + k + 1 = a.size := fun e => c (beq_iff_eq.mpr e)
            have n5 : ¬ ja' + k = a.size := fun e => c' (beq_iff_eq.mpr e)
            exact step2 _ _ (show ja' + k + 1 < a.size by omega) (show ja' ≤ ja' + k by omega) inv1 fun x hx => bpK_rf (kf x (by rw [List.drop_drop]; exact hx))
          · rw [if_neg c]
            have : k = 0 := by omega
            subst this
            exact step2 _ _ n1 (Nat.le_refl _) l.inv fun x hx => bpK_rf (kf x hx)
        clear_value jp
        by_cases c : mg > 1
        · rw [if_pos c]; exact step (mg - 1)
        · rw [if_neg c]; exact step mg
end
end L3

/-! merging from the back. -/
namespace L3
open PySem PyProof.Rows
section
variable {κ : KeyKind} {prog : Program} {w : World} {A : Around} {E : Value → Shared → Prop} {s : Shared}
theorem ar_take {α : Type} {a : Array α} {i : Nat} {p : α} (h : a[i]? = some p) : (a.toList.take (i + 1)).reverse = p :: (a.toList.take i).reverse := by
  rw [← Array.getElem?_toList] at h
  rw [List.take_add_one, h, List.reverse_append]; rfl
theorem ar_cut2 {α : Type} (l : List α) {c n : Nat} (h : c ≤ n) : (l.take n).reverse = ((l.take n).drop c).reverse ++ (l.take c).reverse := by
  have e := List.take_append_drop c (l.take n)
  rw [List.take_take, Nat.min_eq_left h] at e
  rw [← List.reverse_append, e]
theorem ar_ext3 {α : Type} (a : Array α) (c n : Nat) : (a.extract c n).toList = (a.toList.take n).drop c := by
  rw [Array.toList_extract, List.extract_eq_take_drop, List.drop_take]
theorem ar_ext0 {α : Type} (a : Array α) (n : Nat) : (a.extract 0 n).toList = a.toList.take n := by
  rw [ar_ext3]; rfl
abbrev HiI (κ : KeyKind) (a b o : Array Keyed) (na nb : Nat) : Prop := MInv (fun p q => Rk κ q p) (a.toList ++ b.toList) o.toList (a.toList.take na).reverse (b.toList.take nb).reverse
structure Hi (κ : KeyKind) (a b : Array Keyed) (o : Array Keyed) (ia ib : Nat) : Prop where
  na : 0 < ia
  nb : 1 < ib
  la : ia ≤ a.size
  lb : ib ≤ b.size
  inv : HiI κ a b o ia ib
section
variable {a b o : Array Keyed} {na nb : Nat}
theorem Hi.done (h : HiI κ a b o na nb) (e : na = 0 ∨ nb = 0) : Gd κ (a.toList ++ b.toList) (a.extract 0 na ++ b.extract 0 nb ++ o.reverse) := by
  have h2 := h.endY fun y hy x hx => by
    rcases e with e | e
    · rw [e] at hx; cases hx
    · rw [e] at hy; cases hy
  have er : (a.extract 0 na ++ b.extract 0 nb ++ o.reverse).toList = (o.toList ++ (b.toList.take nb).reverse ++ (a.toList.take na).reverse).reverse := by
    rw [Array.toList_append, Array.toList_append, ar_ext0, ar_ext0, Array.toList_reverse, List.reverse_append, List.reverse_append, List.reverse_reverse, List.reverse_reverse, List.append_assoc]
  unfold Gd
  rw [er]
  exact ⟨List.pairwise_reverse.mpr h2.1, (List.reverse_perm _).trans h2.2⟩
theorem Hi.first (h : HiI κ a b o na nb) (e : nb = 1) (hf : ∀ p, b[0]? = some p → ∀ x, x ∈ a.toList → Rk κ p x) : Gd κ (a.toList ++ b.toList) (b.extract 0 nb ++ a.extract 0 na ++ o.reverse) := by
  have h2 := h.endX fun x hx y hy => by
    rw [e] at hy
    have hy' := List.mem_reverse.mp hy
    obtain ⟨i, hi, rfl⟩ := List.mem_iff_getElem.mp hy'
    have hi0 : i = 0 := by rw [List.length_take] at hi; omega
    subst hi0
    refine hf _ ?_ x (List.mem_of_mem_take (List.mem_reverse.mp hx))
    have hl : 0 < b.toList.length := by rw [List.length_take] at hi; omega
    rw [← Array.getElem?_toList, List.getElem?_eq_getElem hl, List.getElem_take]
  have er : (b.extract 0 nb ++ a.extract 0 na ++ o.reverse).toList = (o.toList ++ (a.toList.take na).reverse ++ (b.toList.take nb).reverse).reverse := by
    rw [Array.toList_append, Array.toList_append, ar_ext0, ar_ext0, Array.toList_reverse, List.reverse_append, List.reverse_append, List.reverse_reverse, List.reverse_reverse, List.append_assoc]
  unfold Gd
  rw [er]
  exact ⟨List.pairwise_reverse.mpr h2.1, (List.reverse_perm _).trans h2.2⟩
theorem Hi.pushB {p : Keyed} (h : HiI κ a b o na nb) (h0 : 0 < nb) (hp : b[nb - 1]? = some p) (hx : ∀ x, x ∈ a.toList.take na → Rk κ x p) : HiI κ a b (o.push p) na (nb - 1) := by
  unfold HiI at h ⊢
  have e := ar_take hp
  rw [Nat.sub_add_cancel h0] at e
  rw [e] at h
  rw [Array.toList_push]
  exact MInv.takeY (Y1 := [p]) h fun y hy x hx' => by rw [List.mem_singleton.mp hy]; exact hx x (List.mem_reverse.mp hx')
theorem Hi.pushA {p : Keyed} (h : HiI κ a b o na nb) (h0 : 0 < na) (hp : a[na - 1]? = some p) (hy : ∀ y, y ∈ b.toList.take nb → Rk κ y p) : HiI κ a b (o.push p) (na - 1) nb := by
  unfold HiI at h ⊢
  have e := ar_take hp
  rw [Nat.sub_add_cancel h0] at e
  rw [e] at h
  rw [Array.toList_push]
  exact MInv.takeX (X1 := [p]) h fun x hx y hy' => by rw [List.mem_singleton.mp hx]; exact hy y (List.mem_reverse.mp hy')
theorem Hi.moreA {c : Nat} (h : HiI κ a b o na nb) (hc : c ≤ na) (hx : ∀ x, x ∈ (a.toList.take na).drop c → ∀ y, y ∈ b.toList.take nb → Rk κ y x) : HiI κ a b (o ++ (a.extract c na).reverse) c nb := by
  unfold HiI at h ⊢
  rw [ar_cut2 a.toList hc] at h
  rw [Array.toList_append, Array.toList_reverse, ar_ext3]
  exact MInv.takeX h fun x hx' y hy => hx x (List.mem_reverse.mp hx') y (List.mem_reverse.mp hy)
theorem Hi.moreB {c : Nat} (h : HiI κ a b o na nb) (hc : c ≤ nb) (hy : ∀ y, y ∈ (b.toList.take nb).drop c → ∀ x, x ∈ a.toList.take na → Rk κ x y) : HiI κ a b (o ++ (b.extract c nb).reverse) na c := by
  unfold HiI at h ⊢
  rw [ar_cut2 b.toList hc] at h
  rw [Array.toList_append, Array.toList_reverse, ar_ext3]
  exact MInv.takeY h fun y hy' x hx => hy y (List.mem_reverse.mp hy') x (List.mem_reverse.mp hx)
theorem ge_last {a : Array Keyed} {n : Nat} {p : Keyed} (h0 : 0 < n) (hp : a[n - 1]? = some p) (hs : ((a.toList.take n).reverse).Pairwise fun p q => Rk κ q p) : ∀ x, x ∈ a.toList.take n → Rk κ x p := by
  intro x hx
  have e := ar_take hp
  rw [Nat.sub_add_cancel h0] at e
  rw [e] at hs
  have hx' := List.mem_reverse.mpr hx
  rw [e] at hx'
  rcases List.mem_cons.mp hx' with rfl | hx'
  · exact KeyOrd.kle_refl _
  · exact (List.pairwise_cons.mp hs).1 x hx'
end
abbrev HiC := Option (Array Keyed) × Nat × Nat × Array Keyed × Nat × Nat × Nat
def HiQ (κ : KeyKind) (a b : Array Keyed) (st : SortSt) (n n' t : Nat) : ForInStep HiC → SortSt → Prop
  | .done c', st' => Sm st st' ∧ ∃ r ka kb o mg ac bc, c' = (r, ka, kb, o, mg, ac, bc) ∧ ((∃ g, r = some g ∧ Gd κ (a.toList ++ b.toList) g) ∨ r = none ∧ Hi κ a b o ka kb ∧ ka + kb + n ≤ t)
  | .yield c', st' => Sm st st' ∧ ∃ ka kb o mg ac bc, c' = (none, ka, kb, o, mg, ac, bc) ∧ Hi κ a b o ka kb ∧ ka + kb + n' ≤ t
theorem ar_slice0 {α : Type} (a : Array α) {i n : Nat} (h : i < n) : a[0 + i]? = (a.toList.take n)[i]? := by
  rw [List.getElem?_take_of_lt h, Array.getElem?_toList, Nat.zero_add]
theorem len_take0 {α : Type} {a : Array α} {n : Nat} (h : n ≤ a.size) : (a.toList.take n).length = n := by
  rw [List.length_take, Array.length_toList]; omega
theorem take_le {α : Type} (l : List α) {c n : Nat} (h : c ≤ n) : (l.take n).take c = l.take c := by rw [List.take_take, Nat.min_eq_left h]
def mergeHi' : Array Keyed → Array Keyed → StateT SortSt Sem (Array Keyed) := sortPriv% PySem.Builtin.mergeHi
theorem wpS_mergeHi (hO : κ.OneLt) {a b : Array Keyed} {st : SortSt} (hk : kindOf st = oneType') (ka : ∀ p, p ∈ a.toList → Ko κ p) (kb : ∀ p, p ∈ b.toList → Ko κ p) (sa : a.toList.Pairwise (Rk κ)) (sb : b.toList.Pairwise (Rk κ))
    (na : 0 < a.size) (nb : 0 < b.size) (hf : ∀ p, b[0]? = some p → ∀ x, x ∈ a.toList → Rk κ p x) (hl : ∀ p, a[a.size - 1]? = some p → ∀ y, y ∈ b.toList → Rk κ y p) {Q : Array Keyed → SortSt → Prop}
    (h : ∀ o st', Sm st st' → Gd κ (a.toList ++ b.toList) o → Q o st') : wpS (model prog w) A E s (mergeHi' a b) Q st := by
  delta mergeHi'
  refine wpS_bind (wpS_lift (wpAny_rule ⟨rfl, ?_⟩))
  extract_lets +onlyGivenNames total done first na0 nb0
  obtain ⟨a0, ha0⟩ := ar_some (a := a) (i := a.size - 1) (by omega)
  refine wpS_bind (wpS_elem ha0 ?_)
  have i0 : HiI κ a b #[] a.size b.size := by
    unfold HiI
    rw [List.take_of_length_le (Nat.le_of_eq Array.length_toList), List.take_of_length_le (Nat.le_of_eq Array.length_toList)]
    exact ⟨List.Pairwise.nil, List.pairwise_reverse.mpr sa, List.pairwise_reverse.mpr sb, (fun o ho => nomatch ho), (fun o ho => nomatch ho), List.Perm.append (List.reverse_perm _) (List.reverse_perm _)⟩
  have i1 : HiI κ a b #[a0] (a.size - 1) b.size := Hi.pushA i0 na ha0 fun y hy => hl a0 ha0 y (List.mem_of_mem_take hy)
  extract_lets +onlyGivenNames out
  by_cases c1 : (na0 == 0) = true
  · rw [if_pos c1]
    exact wpS_pure (h _ _ (Sm.refl _) (Hi.done i1 (.inl (eq_of_beq c1))))
  rw [if_neg c1]
  by_cases c2 : (nb0 == 1) = true
  · rw [if_pos c2]
    exact wpS_pure (h _ _ (Sm.refl _) (Hi.first i1 (eq_of_beq c2) hf))
  rw [if_neg c2]
  refine wpS_bind (wpS_get ?_)
  have m1 : ¬ a.size - 1 = 0 := fun e => c1 (beq_iff_eq.mpr e)
  have m2 : ¬ b.size = 1 := fun e => c2 (beq_iff_eq.mpr e)
  have l1 : Hi κ a b #[a0] (a.size - 1) b.size := ⟨by omega, by omega, by omega, by omega, i1⟩
  have tot : total = a.size + b.size := rfl
  clear_value total
  refine wpS_bind (wpS_mono (wpS_forRange (a := 0) (b := total) (I := fun x c st' => Sm st st' ∧ ∃ ia ib o mg, c = (none, ia, ib, o, mg) ∧ Hi κ a b o ia ib ∧ ia + ib + x ≤ total)
    (Q := fun c st' => Sm st st' ∧ ∃ g ia ib o mg, c = (some g, ia, ib, o, mg) ∧ Gd κ (a.toList ++ b.toList) g) ?step ?fin ⟨Sm.refl _, _, _, _, _, rfl, l1, show a.size - 1 + b.size + 0 ≤ total by omega⟩) ?post)
  case post =>
    rintro c st' ⟨sm, g, ia, ib, o, mg, rfl, hg⟩
    exact wpS_pure (h _ _ sm hg)
  case fin =>
    rintro c st' ⟨sm, ia, ib, o, mg, rfl, l, hx⟩
    have := l.na; have := l.nb
    exfalso; omega
  case step =>
    rintro x c st1 _ hx ⟨sm, ia, ib, o, mg, rfl, l, hxx⟩
    have hk1 : kindOf st1 = oneType' := sm.1.trans hk
    refine wpS_bind (wpS_mono (wpS_forRange (a := 0) (b := total) (I := fun y c st' => st' = st1 ∧ ∃ ja jb o ac bc, c = (none, ja, jb, o, ac, bc) ∧ Hi κ a b o ja jb ∧ ja + jb + y ≤ ia + ib)
      (Q := fun c st' => st' = st1 ∧ ∃ r ja jb o ac bc, c = (r, ja, jb, o, ac, bc) ∧ ((∃ g, r = some g ∧ Gd κ (a.toList ++ b.toList) g) ∨ (r = none ∧ Hi κ a b o ja jb ∧ ja + jb + 1 ≤ ia + ib))) ?step1 ?fin1 ⟨rfl, _, _, _, _, _, rfl, l, Nat.le_refl _⟩) ?post1)
    case fin1 =>
      rintro c st' ⟨rfl, ja, jb, o, ac, bc, rfl, l, hx⟩
      have := l.na; have := l.nb
      exfalso; omega
    case step1 =>
      rintro y c st2 _ hy ⟨rfl, ja, jb, o, ac, bc, rfl, l, hyy⟩
      have n1 := l.na
      have n2 := l.nb
      have n3 := l.la
      have n4 := l.lb
      obtain ⟨p, hp⟩ := ar_some (a := b) (i := jb - 1) (by omega)
      obtain ⟨q, hq⟩ := ar_some (a := a) (i := ja - 1) (by omega)
      refine wpS_bind (wpS_elem hp (wpS_bind (wpS_elem hq (wpS_bind (wpS_lt2 hO hk1 (kb p (ar_mem hp)) (ka q (ar_mem hq)) ?_)))))
      dsimp -zeta only
      cases hw : κ.blt (ky κ p) (ky κ q) with
      | true =>
        rw [if_pos rfl]
        refine wpS_bind (wpS_elem hq ?_)
        have inv := Hi.pushA l.inv n1 hq fun y hy => (ge_last (by omega) hp l.inv.sy y hy).trans (Rk.of_lt hw)
        dsimp only
        by_cases c : (ja - 1 == 0) = true
        · rw [if_pos c]
          exact wpS_pure ⟨rfl, _, _, _, _, _, _, rfl, .inl ⟨_, rfl, Hi.done inv (.inl (eq_of_beq c))⟩⟩
        rw [if_neg c]
        have n5 : ¬ ja - 1 = 0 := fun e => c (beq_iff_eq.mpr e)
        have l' : Hi κ a b (o.push q) (ja - 1) jb := ⟨by omega, n2, by omega, n4, inv⟩
        by_cases c : ac + 1 ≥ mg
        · rw [if_pos c]
          exact wpS_pure ⟨rfl, _, _, _, _, _, _, rfl, .inr ⟨rfl, l', by omega⟩⟩
        · rw [if_neg c]
          exact wpS_pure ⟨rfl, _, _, _, _, _, rfl, l', by omega⟩
      | false =>
        rw [if_neg (by decide)]
        refine wpS_bind (wpS_elem hp ?_)
        have inv := Hi.pushB l.inv (by omega) hp fun x hx => (ge_last n1 hq l.inv.sx x hx).trans (show Rk κ q p from hw)
        dsimp only
        by_cases c : (jb - 1 == 1) = true
        · rw [if_pos c]
          exact wpS_pure ⟨rfl, _, _, _, _, _, _, rfl, .inl ⟨_, rfl, Hi.first inv (eq_of_beq c) hf⟩⟩
        rw [if_neg c]
        have n5 : ¬ jb - 1 = 1 := fun e => c (beq_iff_eq.mpr e)
        have l' : Hi κ a b (o.push p) ja (jb - 1) := ⟨n1, by omega, n3, by omega, inv⟩
        by_cases c : bc + 1 ≥ mg
        · rw [if_pos c]
          exact wpS_pure ⟨rfl, _, _, _, _, _, _, rfl, .inr ⟨rfl, l', by omega⟩⟩
        · rw [if_neg c]
          exact wpS_pure ⟨rfl, _, _, _, _, _, rfl, l', by omega⟩
    case post1 =>
      rintro c st2 ⟨rfl, r, ja, jb, o, ac, bc, rfl, ⟨g, rfl, hg⟩ | ⟨rfl, l, hj⟩⟩
      · exact wpS_pure ⟨sm, _, _, _, _, _, rfl, hg⟩
      refine wpS_bind (wpS_lift (wpAny_rule ⟨rfl, ?_⟩))
      refine wpS_bind (wpS_mono (wpS_forRange (a := 0) (b := total) (I := fun y c st' => Sm st st' ∧ ∃ ka kb o mg ac bc, c = (none, ka, kb, o, mg, ac, bc) ∧ Hi κ a b o ka kb ∧ ka + kb + y ≤ ja + jb)
        (Q := fun c st' => Sm st st' ∧ ∃ r ka kb o mg ac bc, c = (r, ka, kb, o, mg, ac, bc) ∧ ((∃ g, r = some g ∧ Gd κ (a.toList ++ b.toList) g) ∨ (r = none ∧ Hi κ a b o ka kb ∧ ka + kb + 0 ≤ ja + jb))) ?step2 ?fin2 ⟨sm, _, _, _, _, _, _, rfl, l, Nat.le_refl _⟩) ?post2)
      case fin2 =>
        rintro c st' ⟨sm, ja, jb, o, mg, ac, bc, rfl, l, hx⟩
        have := l.na; have := l.nb
        exfalso; omega
      case post2 =>
        rintro c st2 ⟨sm, r, ka, kb, o, mg, ac, bc, rfl, ⟨g, rfl, hg⟩ | ⟨rfl, l, hj⟩⟩
        · exact wpS_pure ⟨sm, _, _, _, _, _, rfl, hg⟩
        · exact wpS_bind (wpS_modify (wpS_pure ⟨sm, _, _, _, _, rfl, l, show ka + kb + (x + 1) ≤ total by omega⟩))
      case step2 =>
        rintro y c st2 _ hy ⟨sm, ja', jb', o, mg, ac, bc, rfl, l, hyy⟩
        dsimp -zeta only
        extract_lets +onlyGivenNames z1 ia z2 ib z3 o z4 mg z5 ac bc nb2 jp
        have n1 := l.na
        have n2 := l.nb
        have n3 := l.la
        have n4 := l.lb
        obtain ⟨p, hp⟩ := ar_some (a := b) (i := jb' - 1) (by omega)
        refine wpS_mono (Q := HiQ κ a b st 0 (y + 1) (ja + jb)) ?_ fun r st' h => by cases r <;> exact h
        have step : ∀ m, wpS (model prog w) A E s (jp () m) (HiQ κ a b st 0 (y + 1) (ja + jb)) st2 := by
          intro m
          refine wpS_bind (wpS_modify ?_)
          have sm3 : Sm st (setGal st2 m) := sm
          show wpS (model prog w) A E s _ _ (setGal st2 m)
          generalize setGal st2 m = st3 at sm3 ⊢
          have hk2 : kindOf st3 = oneType' := sm3.1.trans hk
          refine wpS_bind (wpS_elem (i := jb' - 1) hp ?_)
          refine wpS_bind (wpS_gallopK (κ := κ) hO (n := ja') (hint := ja' - 1) (L := a.toList.take ja') hk2 (kb p (ar_mem hp)) (fun q hq => ka q (List.mem_of_mem_take hq)) (len_take0 n3) (fun i hi => ar_slice0 a hi) (sa.sublist (List.take_sublist _ _)) (by omega) ?_)
          intro k hk3 kt kf
          rw [take_le _ hk3] at kt
          dsimp -zeta only
          extract_lets +onlyGivenNames kk acount jp2
          have step2 : ∀ (ia' : Nat) (o' : Array Keyed), 0 < ia' → ia' ≤ ja' → HiI κ a b o' ia' jb' → (∀ x, x ∈ a.toList.take ia' → Rk κ x p) → wpS (model prog w) A E s (jp2 () ia' o') (HiQ κ a b st 0 (y + 1) (ja + jb)) st3 := by
            intro ia' o' ha' hle hi hx
            refine wpS_bind (wpS_elem (i := jb' - 1) hp ?_)
            have inv2 := Hi.pushB hi (by omega) hp hx
            extract_lets +onlyGivenNames out2
            by_cases c : (nb2 == 1) = true
            · rw [if_pos c]
              exact wpS_pure ⟨sm3, _, _, _, _, _, _, _, rfl, .inl ⟨_, rfl, Hi.first inv2 (eq_of_beq c) hf⟩⟩
            rw [if_neg c]
            have n5 : ¬ jb' - 1 = 1 := fun e => c (beq_iff_eq.mpr e)
            obtain ⟨q, hq⟩ := ar_some (a := a) (i := ia' - 1) (by omega)
            refine wpS_bind (wpS_elem hq ?_)
            refine wpS_bind (wpS_gallopK (κ := κ) hO (n := jb' - 1) (hint := jb' - 1 - 1) (L := b.toList.take (jb' - 1)) hk2 (ka q (ar_mem hq)) (fun q hq => kb q (List.mem_of_mem_take hq)) (len_take0 (by omega)) (fun i hi => ar_slice0 b hi) (sb.sublist (List.take_sublist _ _)) (by omega) ?_)
            intro k2 hk4 kt2 kf2
            rw [take_le _ hk4] at kt2
            dsimp -zeta only
            extract_lets +onlyGivenNames kk2 bcount na4 jp3
            have step3 : ∀ (ib3 : Nat) (o3 : Array Keyed), 1 < ib3 → ib3 ≤ jb' - 1 → HiI κ a b o3 ia' ib3 → (∀ y, y ∈ b.toList.take ib3 → Rk κ y q) → wpS (model prog w) A E s (jp3 () ib3 o3) (HiQ κ a b st 0 (y + 1) (ja + jb)) st3 := by
              intro ib3 o3 hb3 hle3 hi3 hy3
              refine wpS_bind (wpS_elem (i := ia' - 1) hq ?_)
              have inv3 := Hi.pushA hi3 ha' hq hy3
              extract_lets +onlyGivenNames out4
              by_cases c : (na4 == 0) = true
              · rw [if_pos c]
                exact wpS_pure ⟨sm3, _, _, _, _, _, _, _, rfl, .inl ⟨_, rfl, Hi.done inv3 (.inl (eq_of_beq c))⟩⟩
              rw [if_neg c]
              have n6 : ¬ ia' - 1 = 0 := fun e => c (beq_iff_eq.mpr e)
              have l' : Hi κ a b (o3.push q) (ia' - 1) ib3 := ⟨by omega, hb3, by omega, by omega, inv3⟩
              by_cases c : (decide (acount < 7) && decide (bcount < 7)) = true
              · rw [if_pos c]
                exact wpS_pure ⟨sm3, _, _, _, _, _, _, _, rfl, .inr ⟨rfl, l', by omega⟩⟩
              · rw [if_neg c]
                exact wpS_pure ⟨sm3, _, _, _, _, _, _, rfl, l', by omega⟩
            clear_value jp3
            by_cases c : kk2 > 0
            · rw [if_pos c]
              have inv3 := Hi.moreB inv2 hk4 fun y hy x hx => (ge_last ha' hq hi.sx x hx).trans (bpK_lf (kf2 y hy))
              extract_lets +onlyGivenNames out5 ib5
              by_cases c : (ib5 == 1) = true
              · rw [if_pos c]
                exact wpS_pure ⟨sm3, _, _, _, _, _, _, _, rfl, .inl ⟨_, rfl, Hi.first inv3 (eq_of_beq c) hf⟩⟩
              rw [if_neg c]
              by_cases c' : (ib5 == 0) = true
              · rw [if_pos c']
                exact wpS_pure ⟨sm3, _, _, _, _, _, _, _, rfl, .inl ⟨_, rfl, Hi.done inv3 (.inr (eq_of_beq c'))⟩⟩
              rw [if_neg c']
              have n6 : ¬ k2 = 1 := fun e => c (beq_iff_eq.mpr e)
              have n7 : ¬ k2 = 0 := fun e => c' (beq_iff_eq.mpr e)
              exact step3 _ _ (show 1 < k2 by omega) hk4 inv3 fun y hy => bpK_lt (kt2 y hy)
            · rw [if_neg c]
              have c' : ¬ jb' - 1 - k2 > 0 := c
              have e : k2 = jb' - 1 := by omega
              rw [e] at kt2
              exact step3 _ _ (show 1 < jb' - 1 by omega) (Nat.le_refl _) inv2 fun y hy => bpK_lt (kt2 y hy)
          clear_value jp2
          by_cases c : kk > 0
          · rw [if_pos c]
            have inv1 := Hi.moreA l.inv hk3 fun x hx y hy => (ge_last (by omega) hp l.inv.sy y hy).trans (bpK_rf (kf x hx))
            extract_lets +onlyGivenNames out5 ia5
            by_cases c : (ia5 == 0) = true
            · rw [if_pos c]
              exact wpS_pure ⟨sm3, _, _, _, _, _, _, _, rfl, .inl ⟨_, rfl, Hi.done inv1 (.inl (eq_of_beq c))⟩⟩
            rw [if_neg c]
            have n5 : ¬ k = 0 := fun e => c (beq_iff_eq.mpr e)
            exact step2 _ _ (show 0 < k by omega) hk3 inv1 fun x hx => bpK_rt (kt x hx)
          · rw [if_neg c]
            have c' : ¬ ja' - k > 0 := c
            have e : k = ja' := by omega
            rw [e] at kt
            exact step2 _ _ n1 (Nat.le_refl _) l.inv fun x hx => bpK_rt (kt x hx)
        clear_value jp
        by_cases c : mg > 1
        · rw [if_pos c]; exact step (mg - 1)
        · rw [if_neg c]; exact step mg
end
end L3

/-! two runs side by side become one. -/
namespace L3
open PySem PyProof.Rows
section
variable {κ : KeyKind} {prog : Program} {w : World} {A : Around} {E : Value → Shared → Prop} {s : Shared}
theorem mrg_fin {α : Type} {r : α → α → Prop} {X1 X2 Y1 Y2 m : List α} (hX : (X1 ++ X2).Pairwise r) (hY : (Y1 ++ Y2).Pairwise r) (h1 : ∀ x, x ∈ X1 → ∀ y, y ∈ Y1 ++ Y2 → r x y)
    (h2 : ∀ x, x ∈ X1 ++ X2 → ∀ y, y ∈ Y2 → r x y) (hm : m.Pairwise r) (pm : m.Perm (X2 ++ Y1)) : (X1 ++ m ++ Y2).Pairwise r ∧ (X1 ++ m ++ Y2).Perm ((X1 ++ X2) ++ (Y1 ++ Y2)) := by
  have sx := List.pairwise_append.mp hX
  have sy := List.pairwise_append.mp hY
  refine ⟨List.pairwise_append.mpr ⟨List.pairwise_append.mpr ⟨sx.1, hm, fun x hx z hz => ?_⟩, sy.2.1, fun z hz y hy => ?_⟩, ?_⟩
  · rcases List.mem_append.mp (pm.mem_iff.mp hz) with hz | hz
    · exact sx.2.2 x hx z hz
    · exact h1 x hx z (List.mem_append_left _ hz)
  · rcases List.mem_append.mp hz with hz | hz
    · exact h2 z (List.mem_append_left _ hz) y hy
    · rcases List.mem_append.mp (pm.mem_iff.mp hz) with hz | hz
      · exact h2 z (List.mem_append_right _ hz) y hy
      · exact sy.2.2 z hz y hy
  · have e : X1 ++ X2 ++ (Y1 ++ Y2) = X1 ++ (X2 ++ Y1) ++ Y2 := by simp only [List.append_assoc]
    rw [e]
    exact (pm.append_left X1).append_right Y2
theorem put_back {α : Type} : ∀ (l : List α) (n sa : Nat) (a : Array α) (P X S : List α), a.toList = P ++ X ++ S → P.length = sa + n → X.length = l.length →
    ((l.zipIdx n).foldl (fun a (x : α × Nat) => a.setIfInBounds (sa + x.2) x.1) a).toList = P ++ l ++ S
  | [], n, sa, a, P, X, S, h, _, hx => by
    have : X = [] := List.eq_nil_of_length_eq_zero hx
    subst this
    exact h
  | p :: l, n, sa, a, P, [], S, h, hp, hx => by cases hx
  | p :: l, n, sa, a, P, x :: X, S, h, hp, hx => by
    rw [List.zipIdx_cons, List.foldl_cons]
    have e := put_back l (n + 1) sa (a.setIfInBounds (sa + n) p) (P ++ [p]) X S (by
      rw [Array.toList_setIfInBounds, h, ← hp]
      simp) (by rw [List.length_append, hp]; rfl) (Nat.succ.inj hx)
    rw [e, List.append_assoc P [p] l]; rfl
theorem wpS_set {M : Model} {σ : Type} {x : σ} {Q : PUnit → σ → Prop} {st : σ} (h : Q ⟨⟩ x) : wpS M A E s (set x : StateT σ Sem PUnit) Q st := by
  unfold wpS; rw [StateT.run_set]; exact wpAny_pure ⟨rfl, h⟩
theorem wpS_mergeAt (hO : κ.OneLt) {st : SortSt} {P X Y S : List Keyed} {ps1 ps2 : List (Nat × Nat × Nat)} {pw q : Nat} (hk : kindOf st = oneType') (hfl : failedOf st = none) (ha : (arrOf st).toList = P ++ X ++ Y ++ S)
    (hp : (pendingOf st).toList = ps1 ++ (P.length, X.length, pw) :: (P.length + X.length, Y.length, q) :: ps2) (ko : ∀ p, p ∈ (arrOf st).toList → Ko κ p) (sX : X.Pairwise (Rk κ)) (sY : Y.Pairwise (Rk κ)) (nX : 0 < X.length) (nY : 0 < Y.length)
    {Q : Bool → SortSt → Prop}
    (h : ∀ st' M, kindOf st' = oneType' → failedOf st' = none → (arrOf st').toList = P ++ M ++ S → (pendingOf st').toList = ps1 ++ (P.length, X.length + Y.length, pw) :: ps2 → M.Pairwise (Rk κ) → M.Perm (X ++ Y) → Q true st') :
    wpS (model prog w) A E s (mergeAt' ps1.length) Q st := by
  delta mergeAt'
  refine wpS_bind (wpS_get ?_)
  have g1 : (pendingOf st)[ps1.length]? = some (P.length, X.length, pw) := by
    rw [← Array.getElem?_toList, hp]; simp
  have g2 : (pendingOf st)[ps1.length + 1]? = some (P.length + X.length, Y.length, q) := by
    rw [← Array.getElem?_toList, hp]; simp
  rw [g1, g2]
  dsimp -zeta only
  refine wpS_bind (wpS_set ?_)
  have hp' : (((pendingOf st).setIfInBounds ps1.length (P.length, X.length + Y.length, pw)).eraseIdxIfInBounds (ps1.length + 1)).toList = ps1 ++ (P.length, X.length + Y.length, pw) :: ps2 := by
    rw [Array.toList_eraseIdxIfInBounds, Array.toList_setIfInBounds, hp]
    simp only [List.set_append, Nat.lt_irrefl, if_false, Nat.sub_self, List.set_cons_zero, List.eraseIdx_append]
    rw [if_neg (by omega), Nat.add_sub_cancel_left]
    rfl
  show wpS (model prog w) A E s _ _ (setPending st (((pendingOf st).setIfInBounds ps1.length (P.length, X.length + Y.length, pw)).eraseIdxIfInBounds (ps1.length + 1)))
  have hst2 : ∃ st2, st2 = setPending st (((pendingOf st).setIfInBounds ps1.length (P.length, X.length + Y.length, pw)).eraseIdxIfInBounds (ps1.length + 1)) ∧ kindOf st2 = oneType' ∧ failedOf st2 = none ∧ arrOf st2 = arrOf st ∧ (pendingOf st2).toList = ps1 ++ (P.length, X.length + Y.length, pw) :: ps2 := ⟨_, rfl, hk, hfl, rfl, hp'⟩
  obtain ⟨st2, e2, hk2, hf2, ha2, hp2⟩ := hst2
  rw [← e2]
  clear e2 hp' g1 g2 hp hk hfl
  have gX : ∀ i, i < X.length → (arrOf st)[P.length + i]? = X[i]? := fun i hi => by
    rw [← Array.getElem?_toList, ha, List.append_assoc, List.append_assoc, List.getElem?_append_right (by omega), Nat.add_sub_cancel_left, List.getElem?_append_left hi]
  have gY : ∀ i, i < Y.length → (arrOf st)[P.length + X.length + i]? = Y[i]? := fun i hi => by
    rw [← Array.getElem?_toList, ha, List.append_assoc, List.getElem?_append_right (by rw [List.length_append]; omega), List.length_append, Nat.add_sub_cancel_left, List.getElem?_append_left hi]
  have koX : ∀ p, p ∈ X → Ko κ p := fun p hp => ko p (by rw [ha]; simp [hp])
  have koY : ∀ p, p ∈ Y → Ko κ p := fun p hp => ko p (by rw [ha]; simp [hp])
  obtain ⟨y0, Y', rfl⟩ : ∃ y0 Y', Y = y0 :: Y' := by
    cases Y with
    | nil => cases nY
    | cons y0 Y' => exact ⟨y0, Y', rfl⟩
  have y0le : ∀ y, y ∈ y0 :: Y' → Rk κ y0 y := fun y hy => by
    rcases List.mem_cons.mp hy with rfl | hy
    · exact KeyOrd.kle_refl _
    · exact (List.pairwise_cons.mp sY).1 y hy
  refine wpS_bind (wpS_elem (p := y0) (gY 0 nY) ?_)
  refine wpS_bind (wpS_gallopK (κ := κ) hO (n := X.length) (hint := 0) (L := X) hk2 (koY y0 (List.mem_cons_self ..)) koX rfl gX sX nX ?_)
  intro k hk3 kt kf
  dsimp -zeta only
  have h1 : ∀ x, x ∈ X.take k → ∀ y, y ∈ y0 :: Y' → Rk κ x y := fun x hx y hy => (bpK_rt (kt x hx)).trans (y0le y hy)
  by_cases c : (X.length - k == 0) = true
  · rw [if_pos c]
    have e : k = X.length := by have := eq_of_beq c; omega
    rw [e, List.take_length] at h1
    refine wpS_pure (h st2 (X ++ y0 :: Y') hk2 hf2 (by rw [ha2, ha]; simp only [List.append_assoc]) hp2 (List.pairwise_append.mpr ⟨sX, sY, h1⟩) (List.Perm.refl _))
  rw [if_neg c]
  have n1 : ¬ X.length - k = 0 := fun e => c (beq_iff_eq.mpr e)
  obtain ⟨xl, hxl⟩ : ∃ p, X[X.length - 1]? = some p := ⟨_, List.getElem?_eq_getElem (by omega)⟩
  have xlle : ∀ x, x ∈ X → Rk κ x xl := fun x hx => by
    obtain ⟨i, hi, rfl⟩ := List.mem_iff_getElem.mp hx
    obtain ⟨hl, el⟩ := List.getElem?_eq_some_iff.mp hxl
    by_cases e : i = X.length - 1
    · subst e; rw [el]; exact KeyOrd.kle_refl _
    · rw [← el]; exact List.pairwise_iff_getElem.mp sX i _ hi hl (by omega)
  refine wpS_bind (wpS_elem (p := xl) (by rw [show P.length + k + (X.length - k) - 1 = P.length + (X.length - 1) by omega]; exact (gX _ (by omega)).trans hxl) ?_)
  refine wpS_bind (wpS_gallopK (κ := κ) hO (n := (y0 :: Y').length) (hint := (y0 :: Y').length - 1) (L := y0 :: Y') hk2 (koX xl (List.mem_of_getElem? hxl)) koY rfl gY sY (by omega) ?_)
  intro k2 hk4 kt2 kf2
  dsimp -zeta only
  have h2 : ∀ x, x ∈ X → ∀ y, y ∈ (y0 :: Y').drop k2 → Rk κ x y := fun x hx y hy => (xlle x hx).trans (bpK_lf (kf2 y hy))
  by_cases c : (k2 == 0) = true
  · rw [if_pos c]
    have e : k2 = 0 := eq_of_beq c
    rw [e, List.drop_zero] at h2
    exact wpS_pure (h st2 (X ++ y0 :: Y') hk2 hf2 (by rw [ha2, ha]; simp only [List.append_assoc]) hp2 (List.pairwise_append.mpr ⟨sX, sY, h2⟩) (List.Perm.refl _))
  rw [if_neg c]
  have n2 : ¬ k2 = 0 := fun e => c (beq_iff_eq.mpr e)
  extract_lets +onlyGivenNames x y jp
  have ex : x.toList = X.drop k := by
    show ((arrOf st).extract (P.length + k) (P.length + X.length)).toList = X.drop k
    rw [ar_ext3, ha]
    simp [List.drop_append, List.take_append]
  have ey : y.toList = (y0 :: Y').take k2 := by
    show ((arrOf st).extract (P.length + X.length) (P.length + X.length + k2)).toList = _
    rw [ar_ext, ha, List.append_assoc, List.drop_append_of_le_length (by rw [List.length_append]; omega), List.drop_of_length_le (by rw [List.length_append]; omega), List.nil_append, List.take_append_of_le_length hk4]
  have fin : ∀ m st3, Sm st2 st3 → Gd κ (x.toList ++ y.toList) m → wpS (model prog w) A E s (jp m) Q st3 := by
    rintro m st3 ⟨s1, s2, s3, s4⟩ ⟨g1, g2⟩
    refine wpS_bind (wpS_modify (wpS_bind (wpS_get (wpS_pure ?_))))
    show Q (failedOf st3).isNone _
    rw [s4, hf2]
    rw [ex, ey] at g2
    have eX := List.take_append_drop k X
    have eY := List.take_append_drop k2 (y0 :: Y')
    obtain ⟨m1, m2⟩ := mrg_fin (r := Rk κ) (X1 := X.take k) (X2 := X.drop k) (Y1 := (y0 :: Y').take k2) (Y2 := (y0 :: Y').drop k2) (m := m.toList) (by rw [eX]; exact sX) (by rw [eY]; exact sY) (by rw [eY]; exact h1) (by rw [eX]; exact h2) g1 g2
    rw [eX, eY] at m2
    refine h _ (X.take k ++ m.toList ++ (y0 :: Y').drop k2) (s1.trans hk2) (s4.trans hf2) ?_ (by rw [← hp2]; exact congrArg _ s3) m1 m2
    have pb := put_back m.toList 0 (P.length + k) (arrOf st3) (P ++ X.take k) (X.drop k ++ (y0 :: Y').take k2) ((y0 :: Y').drop k2 ++ S) (by
      rw [s2, ha2, ha]
      have : P ++ X ++ y0 :: Y' ++ S = P ++ (X.take k ++ X.drop k) ++ ((y0 :: Y').take k2 ++ (y0 :: Y').drop k2) ++ S := by rw [eX, eY]
      rw [this]
      simp only [List.append_assoc]) (by rw [List.length_append, List.length_take]; omega) (g2.length_eq).symm
    refine Eq.trans (Eq.trans ?_ pb) (by simp only [List.append_assoc])
    rfl
  clear_value jp
  have kx : ∀ p, p ∈ x.toList → Ko κ p := fun p hp => koX p (by rw [ex] at hp; exact List.mem_of_mem_drop hp)
  have ky' : ∀ p, p ∈ y.toList → Ko κ p := fun p hp => koY p (by rw [ey] at hp; exact List.mem_of_mem_take hp)
  have sx : x.toList.Pairwise (Rk κ) := by rw [ex]; exact sX.sublist (List.drop_sublist _ _)
  have sy : y.toList.Pairwise (Rk κ) := by rw [ey]; exact sY.sublist (List.take_sublist _ _)
  have nx : 0 < x.size := by rw [← Array.length_toList, ex, List.length_drop]; omega
  have ny : 0 < y.size := by rw [← Array.length_toList, ey, List.length_take]; omega
  have hf : ∀ p, y[0]? = some p → ∀ z, z ∈ x.toList → Rk κ p z := fun p hp z hz => by
    rw [← Array.getElem?_toList, ey, List.getElem?_take_of_lt (by omega)] at hp
    cases hp
    rw [ex] at hz
    exact bpK_rf (kf z hz)
  have hl : ∀ p, x[x.size - 1]? = some p → ∀ z, z ∈ y.toList → Rk κ z p := fun p hp z hz => by
    rw [← Array.getElem?_toList, ← Array.length_toList, ex, List.length_drop, List.getElem?_drop, show k + (X.length - k - 1) = X.length - 1 by omega, hxl] at hp
    cases hp
    rw [ey] at hz
    exact bpK_lt (kt2 z hz)
  by_cases c : X.length - k ≤ k2
  · rw [if_pos c]
    exact wpS_bind (wpS_mergeLo hO hk2 kx ky' sx sy nx ny hf hl fun o st' sm g => fin o st' sm g)
  · rw [if_neg c]
    exact wpS_bind (wpS_mergeHi hO hk2 kx ky' sx sy nx ny hf hl fun o st' sm g => fin o st' sm g)
end
end L3

/-! runs and insertions from any place on. -/
namespace L3
open PySem PyProof.Rows
section
variable {κ : KeyKind} {prog : Program} {w : World} {A : Around} {E : Value → Shared → Prop} {s : Shared} {a₀ : Array Keyed} {pd : Array (Nat × Nat × Nat)} {F : Nat → Option Keyed} {lo : Nat}
structure SB (a₀ : Array Keyed) (pd : Array (Nat × Nat × Nat)) (F : Nat → Option Keyed) (lo : Nat) (st : SortSt) : Prop where
  perm : (arrOf st).Perm a₀
  kind : kindOf st = oneType'
  failed : failedOf st = none
  pend : pendingOf st = pd
  pre : ∀ i, i < lo → (arrOf st)[i]? = F i
theorem SB.size {st : SortSt} (h : SB a₀ pd F lo st) : (arrOf st).size = a₀.size := h.perm.size_eq
theorem SB.mir {st : SortSt} (h : SB a₀ pd F lo st) {i j : Nat} (hi : lo ≤ i) (hj : j ≤ a₀.size) : SB a₀ pd F lo (setArr st (mirror (arrOf st) i j ((j - i) / 2))) :=
  ⟨(mirror_perm _ _ _ _).trans h.perm, h.kind, h.failed, h.pend, fun k hk => by
    show (mirror (arrOf st) i j ((j - i) / 2))[k]? = _
    rw [getElem?_mirror_all (by rw [h.size]; exact hj), if_neg (by omega)]; exact h.pre k hk⟩
theorem SB.bub {st : SortSt} (h : SB a₀ pd F lo st) {k d : Nat} (hk : k < a₀.size) (hd : d ≤ k) (hl : lo ≤ k - d) : SB a₀ pd F lo (setArr st (bubble (arrOf st) k d)) :=
  ⟨(bubble_perm _ _ _).trans h.perm, h.kind, h.failed, h.pend, fun i hi => by
    show (bubble (arrOf st) k d)[i]? = _
    rw [getElem?_bubble (by rw [h.size]; exact hk) d hd, if_neg (by omega), if_neg (by omega)]; exact h.pre i hi⟩
def SF (κ : KeyKind) (xs : Array Keyed) (lo n : Nat) : Prop := ∀ i j, lo ≤ i → i ≤ j → j < lo + n → κ.kle (KK κ xs i) (KK κ xs j)
def NF (κ : KeyKind) (xs : Array Keyed) (lo n : Nat) : Prop := ∀ i j, lo ≤ i → i ≤ j → j < lo + n → κ.kle (KK κ xs j) (KK κ xs i)
theorem KK_some {xs : Array Keyed} {i : Nat} {p : Keyed} (h : xs[i]? = some p) : KK κ xs i = ky κ p := by unfold KK ky; rw [h]
theorem wpS_ltG {st : SortSt} {i j : Nat} {Q : Option Bool → SortSt → Prop} (hO : κ.OneLt) (hB : SB a₀ pd F lo st) (h0 : ∀ p, p ∈ a₀.toList → Ko κ p) (hi : i < a₀.size) (hj : j < a₀.size)
    (h : Q (some (κ.blt (KK κ (arrOf st) i) (KK κ (arrOf st) j))) st) : wpS (model prog w) A E s (ltAt' i j) Q st := by
  obtain ⟨p, hp⟩ := ar_some (a := arrOf st) (i := i) (by rw [hB.size]; exact hi)
  obtain ⟨q, hq⟩ := ar_some (a := arrOf st) (i := j) (by rw [hB.size]; exact hj)
  rw [KK_some hp, KK_some hq] at h
  have mm : ∀ {x}, x ∈ (arrOf st).toList → Ko κ x := fun hx => h0 _ ((Array.perm_iff_toList_perm.mp hB.perm).mem_iff.mp hx)
  rw [ltAt'_eq]
  exact wpS_bind (wpS_get (wpS_bind (wpS_elem hp (wpS_bind (wpS_elem hq (wpS_lt2 hO hB.kind (mm (ar_mem hp)) (mm (ar_mem hq)) h))))))
theorem wpS_rev {M : Model} {st : SortSt} {i j : Nat} {Q : Unit → SortSt → Prop} (h : Q () (setArr st (mirror (arrOf st) i j ((j - i) / 2)))) : wpS M A E s (reverseSlice' i j) Q st := wpS_modify h
theorem SF.one {xs : Array Keyed} {n : Nat} (h : n ≤ 1) : SF κ xs lo n := fun i j h1 h2 h3 => by
  have : i = j := by omega
  subst this; exact KeyOrd.kle_refl _
theorem wpS_binG {st : SortSt} {n ok : Nat} {Q : Bool → SortSt → Prop} (hO : κ.OneLt) (h0 : ∀ p, p ∈ a₀.toList → Ko κ p) (hn : lo + n ≤ a₀.size) (hok : ok ≤ n) (hB : SB a₀ pd F lo st) (hs : SF κ (arrOf st) lo ok)
    (h : ∀ st', SB a₀ pd F lo st' → SF κ (arrOf st') lo n → Q true st') : wpS (model prog w) A E s (binarySort' lo n ok) Q st := by
  rw [binarySort'_eq]
  refine wpS_bind (wpS_mono (wpS_forRange (I := fun k c st' => c = (none, ()) ∧ SB a₀ pd F lo st' ∧ SF κ (arrOf st') lo (min k n))
    (Q := fun c st' => c = (none, ()) ∧ SB a₀ pd F lo st' ∧ SF κ (arrOf st') lo n) ?step ?fin ?init) ?post)
  case post =>
    rintro c st' ⟨rfl, hB', hs'⟩
    exact wpS_pure (h st' hB' hs')
  case init =>
    refine ⟨rfl, hB, ?_⟩
    by_cases h1 : ok = 0
    · exact SF.one (by omega)
    · exact fun i j hl hij hj => hs i j hl hij (by omega)
  case fin =>
    rintro c st' ⟨hc, hB', hs'⟩
    refine ⟨hc, hB', ?_⟩
    rwa [show min (max (max ok 1) n) n = n by omega] at hs'
  case step =>
    rintro k c st' hak hkn ⟨rfl, hB', hs'⟩
    rw [show min k n = k by omega] at hs'
    have hk : lo + k < a₀.size := by omega
    refine wpS_bind (wpS_mono (wpS_forRange (a := 0) (b := k) (I := fun x c st'' => st'' = st' ∧ ∃ l r, c = (none, l, r) ∧ l ≤ r ∧ r ≤ k ∧ r - l ≤ k - x ∧
        (∀ i, lo ≤ i → i < lo + l → κ.kle (KK κ (arrOf st') i) (KK κ (arrOf st') (lo + k))) ∧ (∀ i, lo + r ≤ i → i < lo + k → κ.klt (KK κ (arrOf st') (lo + k)) (KK κ (arrOf st') i)))
      (Q := fun c st'' => st'' = st' ∧ ∃ l r, c = (none, l, r) ∧ l ≤ k ∧
        (∀ i, lo ≤ i → i < lo + l → κ.kle (KK κ (arrOf st') i) (KK κ (arrOf st') (lo + k))) ∧ (∀ i, lo + l ≤ i → i < lo + k → κ.klt (KK κ (arrOf st') (lo + k)) (KK κ (arrOf st') i))) ?istep ?ifin ?iinit) ?ipost)
    case iinit => exact ⟨rfl, 0, k, rfl, by omega, by omega, by omega, fun i _ hi => by omega, fun i h1 h2 => by omega⟩
    case ifin =>
      rintro c st'' ⟨rfl, l, r, rfl, hlr, hrk, hm, hlo, hhi⟩
      have : l = r := by omega
      subst this
      exact ⟨rfl, l, l, rfl, hrk, hlo, hhi⟩
    case istep =>
      rintro x c st'' _ hxk ⟨rfl, l, r, rfl, hlr, hrk, hm, hlo, hhi⟩
      dsimp only
      by_cases hge : l ≥ r
      · rw [if_pos hge]
        have : l = r := by omega
        subst this
        exact wpS_pure ⟨rfl, l, l, rfl, hrk, hlo, hhi⟩
      · rw [if_neg hge]
        refine wpS_bind (wpS_ltG hO hB' h0 hk (by omega) ?_)
        cases hless : κ.blt (KK κ (arrOf st'') (lo + k)) (KK κ (arrOf st'') (lo + (l + r) / 2)) with
        | true =>
          exact wpS_pure ⟨rfl, l, (l + r) / 2, rfl, by omega, by omega, by omega, hlo, fun i h1 h2 => KeyOrd.klt_of_klt_of_kle hless (hs' _ _ (by omega) h1 h2)⟩
        | false =>
          exact wpS_pure ⟨rfl, (l + r) / 2 + 1, r, rfl, by omega, by omega, by omega, fun i hl h1 => KeyOrd.kle_trans (hs' i (lo + (l + r) / 2) hl (by omega) (by omega)) (show κ.kle _ _ from hless), hhi⟩
    case ipost =>
      rintro c st'' ⟨rfl, l, r, rfl, hlk, hlo, hhi⟩
      refine wpS_bind (wpS_modify (wpS_pure ⟨rfl, hB'.bub (k := lo + k) (d := lo + k - (lo + l)) hk (by omega) (by omega), ?_⟩))
      rw [show min (k + 1) n = k + 1 by omega]
      have hks : lo + k < (arrOf st'').size := by rw [hB'.size]; exact hk
      intro i j hl hij hj
      show κ.kle (KK κ (bubble (arrOf st'') (lo + k) (lo + k - (lo + l))) i) (KK κ (bubble (arrOf st'') (lo + k) (lo + k - (lo + l))) j)
      rw [KK_bubble hks (by omega), KK_bubble hks (by omega), show lo + k - (lo + k - (lo + l)) = lo + l by omega]
      repeat' split
      all_goals first
        | (exfalso; omega)
        | exact KeyOrd.kle_refl _
        | exact hlo _ (by omega) (by omega)
        | exact KeyOrd.kle_of_klt (hhi _ (by omega) (by omega))
        | exact hs' _ _ (by omega) (by omega) (by omega)
theorem SF.snoc {xs : Array Keyed} {n : Nat} (h : SF κ xs lo n) (h1 : 1 ≤ n) (hb : κ.blt (KK κ xs (lo + n)) (KK κ xs (lo + n - 1)) = false) : SF κ xs lo (n + 1) := fun i j hl hij hj => by
  by_cases hjx : j < lo + n
  · exact h i j hl hij hjx
  · have hj' : j = lo + n := by omega
    subst hj'
    by_cases hi' : i = lo + n
    · subst hi'; exact KeyOrd.kle_refl _
    · exact KeyOrd.kle_trans (h i (lo + n - 1) hl (by omega) (by omega)) hb
theorem NF.snoc {xs : Array Keyed} {n : Nat} (h : NF κ xs lo n) (h1 : 1 ≤ n) (hb : κ.kle (KK κ xs (lo + n)) (KK κ xs (lo + n - 1))) : NF κ xs lo (n + 1) := fun i j hl hij hj => by
  by_cases hjx : j < lo + n
  · exact h i j hl hij hjx
  · have hj' : j = lo + n := by omega
    subst hj'
    by_cases hi' : i = lo + n
    · subst hi'; exact KeyOrd.kle_refl _
    · exact KeyOrd.kle_trans hb (h i (lo + n - 1) hl (by omega) (by omega))
theorem NF.congr {xs ys : Array Keyed} {n : Nat} (h : NF κ xs lo n) (e : ∀ k, KK κ ys k = KK κ xs k) : NF κ ys lo n := fun i j hl hij hj => by rw [e, e]; exact h i j hl hij hj
theorem wpS_cntG {st : SortSt} {nrem : Nat} {Q : Option Nat → SortSt → Prop} (hO : κ.OneLt) (h0 : ∀ p, p ∈ a₀.toList → Ko κ p) (hn : lo + nrem ≤ a₀.size) (h1 : 1 ≤ nrem) (hB : SB a₀ pd F lo st)
    (h : ∀ m st', SB a₀ pd F lo st' → 1 ≤ m → m ≤ nrem → SF κ (arrOf st') lo m → Q (some m) st') :
    wpS (model prog w) A E s (countRun' lo nrem) Q st := by
  delta countRun'
  refine wpS_bind (wpS_mono (wpS_forRange (a := 1) (b := nrem) (I := fun x c st' => st' = st ∧ c = (none, x) ∧ SF κ (arrOf st) lo x)
    (Q := fun c st' => st' = st ∧ ∃ n, c = (none, n) ∧ 1 ≤ n ∧ n ≤ nrem ∧ SF κ (arrOf st) lo n ∧ (n = nrem ∨ κ.klt (KK κ (arrOf st) (lo + n)) (KK κ (arrOf st) (lo + n - 1)))) ?step ?fin ⟨rfl, rfl, SF.one (Nat.le_refl _)⟩) ?post)
  case fin =>
    rintro c st' ⟨rfl, rfl, hs'⟩
    rw [show max 1 nrem = nrem by omega] at hs' ⊢
    exact ⟨rfl, nrem, rfl, h1, Nat.le_refl _, hs', .inl rfl⟩
  case step =>
    rintro x c st' hax hxn ⟨rfl, rfl, hs'⟩
    refine wpS_bind (wpS_ltG hO hB h0 (by omega) (by omega) ?_)
    cases hless : κ.blt (KK κ (arrOf st') (lo + x)) (KK κ (arrOf st') (lo + x - 1)) with
    | true => exact wpS_pure ⟨rfl, x, rfl, hax, by omega, hs', .inr hless⟩
    | false => exact wpS_pure ⟨rfl, rfl, hs'.snoc hax hless⟩
  case post =>
    rintro c st' ⟨rfl, n, rfl, hn1, hn2, hsn, hor⟩
    dsimp -zeta only
    extract_lets +onlyGivenNames r n'
    show wpS (model prog w) A E s (if (n == nrem) = true then pure (some n) else _) Q st'
    by_cases c : (n == nrem) = true
    · rw [if_pos c]
      exact wpS_pure (h n _ hB hn1 hn2 hsn)
    rw [if_neg c]
    have nn : ¬ n = nrem := fun e => c (beq_iff_eq.mpr e)
    have hlt : κ.klt (KK κ (arrOf st') (lo + n)) (KK κ (arrOf st') (lo + n - 1)) := hor.resolve_left nn
    extract_lets +onlyGivenNames n1 q0 jp
    have fin : ∀ st2, SB a₀ pd F lo st2 → NF κ (arrOf st2) lo (n + 1) → wpS (model prog w) A E s (jp ()) Q st2 := by
      intro st2 hB2 hs2
      refine wpS_bind (wpS_lift (wpAny_rule ⟨rfl, ?_⟩))
      refine wpS_bind (wpS_mono (wpS_forRange (a := n + 1) (b := nrem) (I := fun x c st' => ∃ neq, c = (none, x, neq) ∧ SB a₀ pd F lo st' ∧ NF κ (arrOf st') lo x ∧ neq + 1 ≤ x ∧
          (∀ i, lo + x - (neq + 1) ≤ i → i < lo + x → KK κ (arrOf st') i = KK κ (arrOf st') (lo + x - 1)))
        (Q := fun c st' => ∃ m neq, c = (none, m, neq) ∧ SB a₀ pd F lo st' ∧ n + 1 ≤ m ∧ m ≤ nrem ∧ NF κ (arrOf st') lo m ∧ neq + 1 ≤ m ∧
          (∀ i, lo + m - (neq + 1) ≤ i → i < lo + m → KK κ (arrOf st') i = KK κ (arrOf st') (lo + m - 1))) ?step2 ?fin2 ⟨0, rfl, hB2, hs2, by omega, fun i h1 h2 => by congr 1; omega⟩) ?post2)
      case fin2 =>
        rintro c st3 ⟨neq, rfl, hB', hs', hq, he⟩
        rw [show max (n + 1) nrem = nrem by omega] at hs' hq he ⊢
        exact ⟨nrem, neq, rfl, hB', by omega, Nat.le_refl _, hs', hq, he⟩
      case step2 =>
        rintro x c st3 hax hxn ⟨neq, rfl, hB', hs', hq, he⟩
        have hsz : lo + x ≤ (arrOf st3).size := by rw [hB'.size]; omega
        refine wpS_bind (wpS_ltG (i := lo + x) (j := lo + x - 1) hO hB' h0 (by omega) (by omega) ?_)
        cases hless : κ.blt (KK κ (arrOf st3) (lo + x)) (KK κ (arrOf st3) (lo + x - 1)) with
        | true =>
          have nx : NF κ (arrOf st3) lo (x + 1) := hs'.snoc (by omega) (KeyOrd.kle_of_klt hless)
          show wpS (model prog w) A E s (if neq > 0 then (reverseSlice' (lo + x - (neq + 1)) (lo + x) >>= fun _ => pure (ForInStep.yield (none, x + 1, 0))) else pure (ForInStep.yield (none, x + 1, 0))) _ st3
          by_cases hneq : neq > 0
          · rw [if_pos hneq]
            exact wpS_bind (wpS_rev (wpS_pure ⟨0, rfl, hB'.mir (by omega) (by omega), nx.congr (KK_mirror_equal hsz he), by omega, fun i h1 h2 => by congr 1; omega⟩))
          · rw [if_neg hneq]
            exact wpS_pure ⟨0, rfl, hB', nx, by omega, fun i h1 h2 => by congr 1; omega⟩
        | false =>
          refine wpS_bind (wpS_ltG (i := lo + x - 1) (j := lo + x) hO hB' h0 (by omega) (by omega) ?_)
          cases hlarger : κ.blt (KK κ (arrOf st3) (lo + x - 1)) (KK κ (arrOf st3) (lo + x)) with
          | true => exact wpS_pure ⟨x, neq, rfl, hB', hax, by omega, hs', hq, he⟩
          | false =>
            have heqx : KK κ (arrOf st3) (lo + x) = KK κ (arrOf st3) (lo + x - 1) := KeyOrd.kle_antisymm hlarger hless
            refine wpS_pure ⟨neq + 1, rfl, hB', hs'.snoc (by omega) hlarger, by omega, fun i h1 h2 => ?_⟩
            rw [show lo + (x + 1) - 1 = lo + x by omega]
            by_cases hix : i = lo + x
            · subst hix; rfl
            · rw [heqx]; exact he i (by omega) (by omega)
      case post2 =>
        rintro c st3 ⟨m, neq, rfl, hB', hm1, hm2, hs', hq, he⟩
        have hsz : lo + m ≤ (arrOf st3).size := by rw [hB'.size]; omega
        dsimp -zeta only
        extract_lets +onlyGivenNames z2 m' neq' jp2
        have fin2 : ∀ st4, SB a₀ pd F lo st4 → NF κ (arrOf st4) lo m → wpS (model prog w) A E s (jp2 ()) Q st4 := by
          intro st4 hB4 hs4
          have hsz4 : lo + m ≤ (arrOf st4).size := by rw [hB4.size]; omega
          refine wpS_bind (wpS_rev ?_)
          have hB5 := hB4.mir (i := lo) (j := lo + m) (Nat.le_refl _) (by omega)
          have hs5 : SF κ (mirror (arrOf st4) lo (lo + m) ((lo + m - lo) / 2)) lo m := by
            intro i j hl hij hj
            rw [KK_mirror hsz4, KK_mirror hsz4, if_pos (by omega), if_pos (by omega)]
            exact hs4 _ _ (by omega) (by omega) (by omega)
          revert hB5
          show SB a₀ pd F lo (setArr st4 (mirror (arrOf st4) lo (lo + m) ((lo + m - lo) / 2))) → _
          have hs6 : SF κ (arrOf (setArr st4 (mirror (arrOf st4) lo (lo + m) ((lo + m - lo) / 2)))) lo m := hs5
          show _ → wpS (model prog w) A E s _ _ (setArr st4 (mirror (arrOf st4) lo (lo + m) ((lo + m - lo) / 2)))
          generalize setArr st4 (mirror (arrOf st4) lo (lo + m) ((lo + m - lo) / 2)) = st5 at hs6 ⊢
          intro hB5
          refine wpS_bind (wpS_mono (wpS_forRange (a := m) (b := nrem) (I := fun x c st' => st' = st5 ∧ c = (none, x) ∧ SF κ (arrOf st5) lo x)
            (Q := fun c st' => st' = st5 ∧ ∃ n, c = (none, n) ∧ 1 ≤ n ∧ n ≤ nrem ∧ SF κ (arrOf st5) lo n) ?step3 ?fin3 ⟨rfl, rfl, hs6⟩) ?post3)
          case fin3 =>
            rintro c st' ⟨rfl, rfl, hs'⟩
            rw [show max m nrem = nrem by omega] at hs' ⊢
            exact ⟨rfl, nrem, rfl, h1, Nat.le_refl _, hs'⟩
          case step3 =>
            rintro x c st' hax hxn ⟨rfl, rfl, hs'⟩
            refine wpS_bind (wpS_ltG hO hB5 h0 (by omega) (by omega) ?_)
            cases hless : κ.blt (KK κ (arrOf st') (lo + x)) (KK κ (arrOf st') (lo + x - 1)) with
            | true => exact wpS_pure ⟨rfl, x, rfl, by omega, by omega, hs'⟩
            | false => exact wpS_pure ⟨rfl, rfl, hs'.snoc (by omega) hless⟩
          case post3 =>
            rintro c st' ⟨rfl, k, rfl, hk1, hk2, hsk⟩
            exact wpS_pure (h k _ hB5 hk1 hk2 hsk)
        clear_value jp2
        show wpS (model prog w) A E s (if neq > 0 then (reverseSlice' (lo + m - (neq + 1)) (lo + m) >>= fun r => jp2 r) else jp2 ()) Q st3
        by_cases hneq : neq > 0
        · rw [if_pos hneq]
          exact wpS_bind (wpS_rev (fin2 _ (hB'.mir (by omega) (by omega)) (hs'.congr (KK_mirror_equal hsz he))))
        · rw [if_neg hneq]
          exact fin2 _ hB' hs'
    clear_value jp
    show wpS (model prog w) A E s (if n > 1 then _ else jp ()) Q st'
    by_cases hgt : n > 1
    · rw [if_pos hgt]
      refine wpS_bind (wpS_ltG hO hB h0 (by omega) (show lo + n - 1 < _ by omega) ?_)
      cases hrose : κ.blt (KK κ (arrOf st') lo) (KK κ (arrOf st') (lo + n - 1)) with
      | true => exact wpS_pure (h n _ hB hn1 hn2 hsn)
      | false =>
        have hsz : lo + n ≤ (arrOf st').size := by rw [hB.size]; omega
        have hall : ∀ k, lo ≤ k → k < lo + n → KK κ (arrOf st') k = KK κ (arrOf st') (lo + n - 1) := by
          intro k hl hk
          exact KeyOrd.kle_antisymm (hsn k (lo + n - 1) hl (by omega) (by omega)) (KeyOrd.kle_trans hrose (hsn lo k (Nat.le_refl _) hl hk))
        refine wpS_bind (wpS_rev (fin _ (hB.mir (j := lo + n) (Nat.le_refl _) (by omega)) (NF.snoc ?_ hn1 ?_)))
        · exact NF.congr (xs := arrOf st') (fun i j hl hij hj => by rw [hall i hl (by omega), hall j (by omega) hj]; exact KeyOrd.kle_refl _) (KK_mirror_equal hsz hall)
        · show κ.kle (KK κ (mirror (arrOf st') _ _ _) _) (KK κ (mirror (arrOf st') _ _ _) _)
          rw [KK_mirror_equal hsz hall, KK_mirror_equal hsz hall]; exact KeyOrd.kle_of_klt hlt
    · rw [if_neg hgt]
      refine fin _ hB (NF.snoc (fun i j hl hij hj => ?_) hn1 (KeyOrd.kle_of_klt hlt))
      have : i = j := by omega
      subst this; exact KeyOrd.kle_refl _
end
end L3

/-! the whole sort, for any number of items. -/
namespace L3
open PySem PyProof.Rows
section
variable {κ : KeyKind} {prog : Program} {w : World} {A : Around} {E : Value → Shared → Prop} {s : Shared}
def RunsAt (κ : KeyKind) : Nat → List (Nat × Nat × Nat) → List (List Keyed) → Prop
  | _, [], [] => True
  | o, p :: ps, r :: rs => p.1 = o ∧ p.2.1 = r.length ∧ 0 < r.length ∧ r.Pairwise (Rk κ) ∧ RunsAt κ (o + r.length) ps rs
  | _, _, _ => False
theorem RunsAt.app : ∀ {ps ps' : List (Nat × Nat × Nat)} {o : Nat} {R : List (List Keyed)}, RunsAt κ o (ps ++ ps') R → ∃ R1 R2, R = R1 ++ R2 ∧ RunsAt κ o ps R1 ∧ RunsAt κ (o + R1.flatten.length) ps' R2
  | [], ps', o, R, h => ⟨[], R, rfl, trivial, h⟩
  | p :: ps, ps', o, [], h => h.elim
  | p :: ps, ps', o, r :: R, h => by
    obtain ⟨h1, h2, h3, h4, h5⟩ := h
    obtain ⟨R1, R2, rfl, a, b⟩ := RunsAt.app h5
    refine ⟨r :: R1, R2, rfl, ⟨h1, h2, h3, h4, a⟩, ?_⟩
    rw [List.flatten_cons, List.length_append, ← Nat.add_assoc]; exact b
theorem RunsAt.mk : ∀ {ps ps' : List (Nat × Nat × Nat)} {o : Nat} {R1 R2 : List (List Keyed)}, RunsAt κ o ps R1 → RunsAt κ (o + R1.flatten.length) ps' R2 → RunsAt κ o (ps ++ ps') (R1 ++ R2)
  | [], ps', o, [], R2, _, h' => h'
  | [], ps', o, r :: R1, R2, h, _ => h.elim
  | p :: ps, ps', o, [], R2, h, _ => h.elim
  | p :: ps, ps', o, r :: R1, R2, h, h' => by
    obtain ⟨h1, h2, h3, h4, h5⟩ := h
    refine ⟨h1, h2, h3, h4, RunsAt.mk h5 ?_⟩
    rw [List.flatten_cons, List.length_append, ← Nat.add_assoc] at h'; exact h'
theorem RunsAt.modify {f : Nat × Nat × Nat → Nat × Nat × Nat} (hf : ∀ p, (f p).1 = p.1 ∧ (f p).2.1 = p.2.1) : ∀ {ps : List (Nat × Nat × Nat)} {i o : Nat} {R : List (List Keyed)}, RunsAt κ o ps R → RunsAt κ o (ps.modify i f) R
  | [], i, o, R, h => by cases i <;> exact h
  | p :: ps, i, o, [], h => h.elim
  | p :: ps, 0, o, r :: R, h => by
    obtain ⟨h1, h2, h3⟩ := h
    exact ⟨(hf p).1.trans h1, (hf p).2.trans h2, h3⟩
  | p :: ps, i + 1, o, r :: R, h => by
    obtain ⟨h1, h2, h3, h4, h5⟩ := h
    exact ⟨h1, h2, h3, h4, RunsAt.modify hf h5⟩
theorem RunsAt.len : ∀ {ps : List (Nat × Nat × Nat)} {o : Nat} {R : List (List Keyed)}, RunsAt κ o ps R → ps.length ≤ R.flatten.length
  | [], _, _, _ => Nat.zero_le _
  | p :: ps, _, [], h => h.elim
  | p :: ps, _, r :: R, h => by
    obtain ⟨h1, h2, h3, h4, h5⟩ := h
    have := h5.len
    rw [List.flatten_cons, List.length_append, List.length_cons]; omega
structure SI (κ : KeyKind) (a₀ : Array Keyed) (R : List (List Keyed)) (rest : List Keyed) (st : SortSt) : Prop where
  kind : kindOf st = oneType'
  failed : failedOf st = none
  arr : (arrOf st).toList = R.flatten ++ rest
  runs : RunsAt κ 0 (pendingOf st).toList R
  perm : (arrOf st).toList.Perm a₀.toList
theorem SI.size {a₀ : Array Keyed} {R : List (List Keyed)} {rest : List Keyed} {st : SortSt} (h : SI κ a₀ R rest st) : (arrOf st).size = a₀.size := by
  rw [← Array.length_toList, ← Array.length_toList, h.perm.length_eq]
theorem SI.len {a₀ : Array Keyed} {R : List (List Keyed)} {rest : List Keyed} {st : SortSt} (h : SI κ a₀ R rest st) : R.flatten.length + rest.length = a₀.size := by
  rw [← h.size, ← Array.length_toList, h.arr, List.length_append]
theorem wpS_mrg (hO : κ.OneLt) {a₀ : Array Keyed} (h0 : ∀ p, p ∈ a₀.toList → Ko κ p) {st : SortSt} {R : List (List Keyed)} {rest : List Keyed} {i : Nat} (hi : i + 1 < (pendingOf st).size) (h : SI κ a₀ R rest st) {Q : Bool → SortSt → Prop}
    (hq : ∀ st' R', SI κ a₀ R' rest st' → (pendingOf st').size + 1 = (pendingOf st).size → R'.flatten.length = R.flatten.length → Q true st') : wpS (model prog w) A E s (mergeAt' i) Q st := by
  have e1 : (pendingOf st).toList = (pendingOf st).toList.take i ++ (pendingOf st)[i] :: (pendingOf st)[i + 1] :: (pendingOf st).toList.drop (i + 2) := by
    have a1 := (List.take_append_drop i (pendingOf st).toList).symm
    rw [List.drop_eq_getElem_cons (by rw [Array.length_toList]; omega), List.drop_eq_getElem_cons (by rw [Array.length_toList]; omega)] at a1
    simpa using a1
  have el : ((pendingOf st).toList.take i).length = i := by rw [List.length_take, Array.length_toList]; omega
  generalize (pendingOf st).toList.take i = ps1 at e1 el
  generalize (pendingOf st).toList.drop (i + 2) = ps2 at e1
  generalize (pendingOf st)[i] = p at e1
  generalize (pendingOf st)[i + 1] = q at e1
  subst el
  have r := h.runs
  rw [e1] at r
  obtain ⟨R1, R2, rfl, r1, r2⟩ := r.app
  match R2, r2 with
  | X :: Y :: R2, r2 =>
    obtain ⟨x1, x2, x3, x4, y1, y2, y3, y4, r3⟩ := r2
    obtain ⟨p1, p2, p3⟩ := p
    obtain ⟨q1, q2, q3⟩ := q
    dsimp only at x1 x2 y1 y2
    rw [Nat.zero_add] at x1 y1
    subst x1; subst x2; subst y1; subst y2
    refine wpS_mergeAt hO (P := R1.flatten) (X := X) (Y := Y) (S := R2.flatten ++ rest) (ps1 := ps1) (ps2 := ps2) (pw := p3) (q := q3) h.kind h.failed (by rw [h.arr]; simp only [List.flatten_append, List.flatten_cons, List.append_assoc])
      e1 (fun p hp => h0 p (h.perm.mem_iff.mp hp)) x4 y4 x3 y3 fun st' M k1 k2 k3 k4 k5 k6 => ?_
    have ml : M.length = X.length + Y.length := by rw [k6.length_eq, List.length_append]
    refine hq st' (R1 ++ M :: R2) ⟨k1, k2, by rw [k3]; simp only [List.flatten_append, List.flatten_cons, List.append_assoc], ?_, ?_⟩ ?_ ?_
    · rw [k4]
      refine RunsAt.mk r1 ⟨(Nat.zero_add _).symm, ml.symm, by omega, k5, ?_⟩
      rw [ml, ← Nat.add_assoc]; exact r3
    · refine List.Perm.trans ?_ h.perm
      rw [k3, h.arr]
      simp only [List.flatten_append, List.flatten_cons, List.append_assoc]
      refine List.Perm.append_left _ ?_
      rw [← List.append_assoc X Y]
      exact k6.append_right _
    · rw [← Array.length_toList, ← Array.length_toList (xs := pendingOf st), k4, e1]; simp only [List.length_append, List.length_cons]; omega
    · simp only [List.flatten_append, List.flatten_cons, List.length_append, ml]; omega
theorem minRun_pos : ∀ (f n r : Nat), 1 ≤ n → 1 ≤ minRun' f n r
  | 0, n, r, h => show 1 ≤ n + r by omega
  | f + 1, n, r, h => by
    rw [minRun'_succ]
    split
    · omega
    · exact minRun_pos f _ _ (by omega)
theorem SI.next {a₀ : Array Keyed} {R : List (List Keyed)} {rest : List Keyed} {st st2 : SortSt} {n : Nat} (h : SI κ a₀ R rest st) (hB : SB (arrOf st) (pendingOf st) (fun i => (arrOf st)[i]?) R.flatten.length st2) (hs : SF κ (arrOf st2) R.flatten.length n)
    : ∃ rest2, SI κ a₀ R rest2 st2 ∧ (rest2.take n).Pairwise (Rk κ) := by
  have e : (arrOf st2).toList.take R.flatten.length = R.flatten := by
    have e2 : (arrOf st).toList.take R.flatten.length = R.flatten := by rw [h.arr, List.take_left]
    refine Eq.trans ?_ e2
    refine List.ext_getElem? fun i => ?_
    by_cases hi : i < R.flatten.length
    · rw [List.getElem?_take_of_lt hi, List.getElem?_take_of_lt hi, Array.getElem?_toList, Array.getElem?_toList]; exact hB.pre i hi
    · rw [List.getElem?_eq_none (by rw [List.length_take]; omega), List.getElem?_eq_none (by rw [List.length_take]; omega)]
  refine ⟨(arrOf st2).toList.drop R.flatten.length, ⟨hB.kind, hB.failed, ?_, by rw [hB.pend]; exact h.runs, (Array.perm_iff_toList_perm.mp hB.perm).trans h.perm⟩, ?_⟩
  · rw [← List.take_append_drop R.flatten.length (arrOf st2).toList, e, List.drop_left]
  · refine List.pairwise_iff_getElem.mpr fun i j hi hj hij => ?_
    rw [List.length_take, List.length_drop] at hi hj
    rw [List.getElem_take, List.getElem_take, List.getElem_drop, List.getElem_drop]
    have := hs (R.flatten.length + i) (R.flatten.length + j) (by omega) (by omega) (by omega)
    rw [KK_some (p := (arrOf st2).toList[R.flatten.length + i]) (by rw [← Array.getElem?_toList, List.getElem?_eq_getElem]), KK_some (p := (arrOf st2).toList[R.flatten.length + j]) (by rw [← Array.getElem?_toList, List.getElem?_eq_getElem])] at this
    exact this
def SQ (κ : KeyKind) (a₀ : Array Keyed) (n : Nat) : ForInStep (Option Unit × Nat) → SortSt → Prop
  | .done c', st' => ∃ R n, SI κ a₀ R [] st' ∧ c' = (none, n)
  | .yield c', st' => ∃ R rest, SI κ a₀ R rest st' ∧ c' = (none, R.flatten.length) ∧ n ≤ R.flatten.length
theorem wpS_sortG {a₀ : Array Keyed} {st : SortSt} {Q : Unit → SortSt → Prop} (hO : κ.OneLt) (h0 : ∀ p, p ∈ a₀.toList → Ko κ p) (hB : SBase a₀ st) (h2 : 1 ≤ a₀.size)
    (h : ∀ st', (arrOf st').Perm a₀ → failedOf st' = none → (arrOf st').toList.Pairwise (Rk κ) → Q () st') : wpS (model prog w) A E s sortRuns' Q st := by
  rw [sortRuns'_eq]
  refine wpS_bind (wpS_get ?_)
  have i0 : SI κ a₀ [] (arrOf st).toList st := ⟨hB.kind, hB.failed, rfl, by rw [hB.pend]; exact trivial, Array.perm_iff_toList_perm.mp hB.perm⟩
  rw [hB.size]
  extract_lets +onlyGivenNames size minrun lo
  have es : size = a₀.size := rfl
  have em : minrun = minRun' size size 0 := rfl
  have hm := minRun_pos size size 0 (by omega)
  rw [← em] at hm
  clear_value minrun
  clear_value size
  refine wpS_bind (wpS_mono (wpS_forRange (a := 0) (b := size) (I := fun x c st' => ∃ R rest, SI κ a₀ R rest st' ∧ c = (none, R.flatten.length) ∧ x ≤ R.flatten.length)
    (Q := fun c st' => ∃ R n, SI κ a₀ R [] st' ∧ c = (none, n)) ?step ?fin ⟨[], _, i0, rfl, Nat.le_refl _⟩) ?post)
  case fin =>
    rintro c st' ⟨R, rest, hi, rfl, hx⟩
    have e : rest = [] := List.eq_nil_of_length_eq_zero (by have := hi.len; omega)
    subst e
    exact ⟨R, _, hi, rfl⟩
  case post =>
    rintro c st' ⟨R, n, hi, rfl⟩
    have b0 : (pendingOf st').size + 0 ≤ size + 1 := by
      have a1 := hi.runs.len
      have a2 := hi.len
      rw [Array.length_toList] at a1
      rw [List.length_nil] at a2
      omega
    refine wpS_bind (wpS_mono (wpS_forRange (a := 0) (b := size) (I := fun x c st' => c = (none, ()) ∧ ∃ R, SI κ a₀ R [] st' ∧ (pendingOf st').size + x ≤ size + 1)
      (Q := fun c st' => c = (none, ()) ∧ ∃ R, SI κ a₀ R [] st' ∧ (pendingOf st').size ≤ 1) ?step2 ?fin2 ⟨rfl, R, hi, b0⟩) ?post2)
    case fin2 =>
      rintro c st2 ⟨rfl, R, hi, hx⟩
      exact ⟨rfl, R, hi, by omega⟩
    case step2 =>
      rintro x c st2 _ hx ⟨rfl, R, hi, hxx⟩
      refine wpS_bind (wpS_get ?_)
      extract_lets +onlyGivenNames p
      by_cases c : p.size ≤ 1
      · rw [if_pos c]; exact wpS_pure ⟨rfl, R, hi, c⟩
      rw [if_neg c]
      have c' : ¬ (pendingOf st2).size ≤ 1 := c
      extract_lets +onlyGivenNames i1 bf i2
      have hi2 : i2 + 1 < (pendingOf st2).size := by
        have e1 : i1 = (pendingOf st2).size - 2 := rfl
        have e2 : i2 = i1 - 1 ∨ i2 = i1 := by
          show (if Option.any _ bf = true then i1 - 1 else i1) = i1 - 1 ∨ (if Option.any _ bf = true then i1 - 1 else i1) = i1
          split
          · exact .inl rfl
          · exact .inr rfl
        omega
      refine wpS_bind (wpS_mrg hO h0 hi2 hi fun st3 R' hi3 hs3 _ => ?_)
      exact wpS_pure ⟨rfl, R', hi3, by omega⟩
    case post2 =>
      rintro c st2 ⟨rfl, R, hi, hx⟩
      refine wpS_pure (h st2 (Array.perm_iff_toList_perm.mpr hi.perm) hi.failed ?_)
      rw [hi.arr, List.append_nil]
      have hr := hi.runs
      match R, hp : (pendingOf st2).toList, hr with
      | [], _, _ => exact List.Pairwise.nil
      | r :: R, [], hr => exact hr.elim
      | [r], _ :: _, hr =>
        rw [List.flatten_cons, List.flatten_nil, List.append_nil]
        exact hr.2.2.2.1
      | r :: r' :: R, [_], hr => exact hr.2.2.2.2.elim
      | r :: r' :: R, a :: b :: ps, hr =>
        exfalso
        rw [← Array.length_toList, hp] at hx
        simp only [List.length_cons] at hx
        omega
  case step =>
    rintro x c st1 _ hx ⟨R, rest, hi, rfl, hxx⟩
    have hl := hi.len
    dsimp -zeta only
    extract_lets +onlyGivenNames lo1
    by_cases c : lo1 ≥ size
    · rw [if_pos c]
      have c' : R.flatten.length ≥ size := c
      have e : rest = [] := List.eq_nil_of_length_eq_zero (by omega)
      subst e
      exact wpS_pure ⟨R, _, hi, rfl⟩
    rw [if_neg c]
    have c' : ¬ R.flatten.length ≥ size := c
    have B0 : SB (arrOf st1) (pendingOf st1) (fun i => (arrOf st1)[i]?) R.flatten.length st1 := ⟨Array.Perm.refl _, hi.kind, hi.failed, rfl, fun _ _ => rfl⟩
    have ko : ∀ p, p ∈ (arrOf st1).toList → Ko κ p := fun p hp => h0 p (hi.perm.mem_iff.mp hp)
    refine wpS_bind (wpS_cntG hO ko (show R.flatten.length + (size - R.flatten.length) ≤ (arrOf st1).size by rw [hi.size]; omega) (show 1 ≤ size - R.flatten.length by omega) B0 fun m st2 B2 hm1 hm2 hs2 => ?_)
    dsimp -zeta only
    extract_lets +onlyGivenNames n jp
    have fin : ∀ k st3, SB (arrOf st1) (pendingOf st1) (fun i => (arrOf st1)[i]?) R.flatten.length st3 → SF κ (arrOf st3) R.flatten.length k → 1 ≤ k → k ≤ size - R.flatten.length →
        wpS (model prog w) A E s (jp () k) (SQ κ a₀ (x + 1)) st3 := by
      intro k st3 B3 hs3 hk1 hk2
      obtain ⟨rest2, hi3, hp3⟩ := hi.next B3 hs3
      refine wpS_bind (wpS_get ?_)
      extract_lets +onlyGivenNames lo2 jp2
      have fin2 : ∀ st4 R', SI κ a₀ R' rest2 st4 → R'.flatten.length = R.flatten.length → wpS (model prog w) A E s (jp2 ()) (SQ κ a₀ (x + 1)) st4 := by
        intro st4 R' hi4 hl4
        have l4 := hi4.len
        have lk : (rest2.take k).length = k := by rw [List.length_take]; omega
        refine wpS_bind (wpS_modify (wpS_pure ⟨R' ++ [rest2.take k], rest2.drop k, ⟨hi4.kind, hi4.failed, ?_, ?_, hi4.perm⟩, ?_, ?_⟩))
        · rw [List.flatten_append, List.flatten_cons, List.flatten_nil, List.append_nil, List.append_assoc, List.take_append_drop]; exact hi4.arr
        · show RunsAt κ 0 ((pendingOf st4).push (R.flatten.length, k, 0)).toList _
          rw [Array.toList_push]
          exact RunsAt.mk hi4.runs ⟨show R.flatten.length = 0 + R'.flatten.length by omega, lk.symm, by omega, hp3, trivial⟩
        · show (none, R.flatten.length + k) = _
          rw [List.flatten_append, List.length_append, List.flatten_cons, List.flatten_nil, List.append_nil, lk, hl4]
        · rw [List.flatten_append, List.length_append, List.flatten_cons, List.flatten_nil, List.append_nil, lk]; omega
      clear_value jp2
      rcases hb : (pendingOf st3).back? with _ | ⟨s1, n1, p1⟩
      · exact fin2 st3 R hi3 rfl
      dsimp -zeta only
      extract_lets +onlyGivenNames pw
      clear_value pw
      refine wpS_bind (wpS_mono (wpS_forRange (a := 0) (b := size) (I := fun _ c st' => c = (none, ()) ∧ ∃ R', SI κ a₀ R' rest2 st' ∧ R'.flatten.length = R.flatten.length)
        (Q := fun c st' => c = (none, ()) ∧ ∃ R', SI κ a₀ R' rest2 st' ∧ R'.flatten.length = R.flatten.length) ?step3 (fun _ _ h => h) ⟨rfl, R, hi3, rfl⟩) ?post3)
      case step3 =>
        rintro y c st4 _ _ ⟨rfl, R', hi4, hl4⟩
        refine wpS_bind (wpS_get ?_)
        extract_lets +onlyGivenNames p
        by_cases c : p.size > 1
        · rw [if_pos c]
          have c' : (pendingOf st4).size > 1 := c
          rcases hg : p[p.size - 2]? with _ | ⟨f1, f2, older⟩
          · exact wpS_pure ⟨rfl, R', hi4, hl4⟩
          · dsimp only
            by_cases co : older ≤ pw
            · rw [if_pos co]; exact wpS_pure ⟨rfl, R', hi4, hl4⟩
            · rw [if_neg co]
              exact wpS_bind (wpS_mrg hO h0 (show (pendingOf st4).size - 2 + 1 < _ by omega) hi4 fun st5 R5 hi5 _ hl5 => wpS_pure ⟨rfl, R5, hi5, hl5.trans hl4⟩)
        · rw [if_neg c]
          exact wpS_pure ⟨rfl, R', hi4, hl4⟩
      case post3 =>
        rintro c st4 ⟨rfl, R', hi4, hl4⟩
        refine wpS_bind (wpS_modify (fin2 _ R' ⟨hi4.kind, hi4.failed, hi4.arr, ?_, hi4.perm⟩ hl4))
        show RunsAt κ 0 ((pendingOf st4).modify ((pendingOf st4).size - 1) _).toList R'
        rw [Array.toList_modify]
        exact RunsAt.modify (f := fun x => (x.1, x.2.1, pw)) (fun p => ⟨rfl, rfl⟩) hi4.runs
    clear_value jp
    by_cases c : n < minrun
    · rw [if_pos c]
      have c' : m < minrun := c
      refine wpS_bind (wpS_lift (wpAny_rule ⟨rfl, ?_⟩))
      refine wpS_bind (wpS_binG (n := min (size - R.flatten.length) minrun) hO ko (by rw [hi.size]; omega) (show m ≤ _ by omega) B2 hs2 fun st3 B3 hs3 => ?_)
      exact wpS_mono (fin (min (size - R.flatten.length) minrun) st3 B3 hs3 (by omega) (by omega)) fun r st' h => by cases r <;> exact h
    · rw [if_neg c]
      exact wpS_mono (fin m st2 B2 hs2 hm1 hm2) fun r st' h => by cases r <;> exact h
end
end L3

/-! list.sort and what comes out of it, for any number of texts. -/
namespace L3
open PySem PyProof.Rows
section
variable {prog : Program} {w : World} {A : Around} {E : Value → Shared → Prop} {s : Shared}
theorem sort_any {κ : KeyKind} (hO : κ.OneLt) {a : Addr} {vs : List Value} {n : Nat} {P : Fin → Shared → Prop} (ho : s.heap.get? a = some (seqObj "list" vs.toArray n)) (h0 : KeysOf κ (pairsOf vs))
    (hkk : ∀ v₁ v₂ rest, vs = v₁ :: v₂ :: rest → keyKind' (v₁ :: v₂ :: rest).toArray = pure oneType') (hz : vs.length ≤ sizeLine)
    (h : ∀ st' : SortSt, (arrOf st').Perm (pairsOf vs) → (arrOf st').toList.Pairwise (Rk κ) → P (.done (.ret .none)) { s with heap := sortedHeap s.heap a vs ((arrOf st').map (·.2)) }) :
    wpAny (model prog w) A (Builtin.«list.sort» ⟨[.ref a], []⟩) P E s := by
  rw [list_sort_plain]
  have ha : a < s.heap.objs.size := Heap.lt_size ho
  obtain ⟨e1, ho1⟩ : ∃ e1, (s.heap.update a (Obj.mapSeq fun _ => #[])).get? a = some (seqObj "list" #[] e1) := ⟨_, get?_update_seq ho (fun _ => #[])⟩
  have ho6 : (((s.heap.update a (Obj.mapSeq fun _ => #[])).push (seqObj "tuple" vs.toArray 0)).push (seqObj "list" #[] 0)).get? a = some (seqObj "list" #[] e1) :=
    Heap.get?_push_of_some _ (Heap.get?_push_of_some _ ho1)
  have hsz : vs.toArray.size = vs.length := List.size_toArray
  refine wpAny_bind (listItems_at ho rfl (wpAny_bind (listUpdate_at ho rfl (wpAny_bind (seqEpoch_at ho1 rfl (wpAny_bind (wpAny_newTuple (wpAny_bind (wpAny_newList (wpAny_holding ?_))) ?_)))))))
  · show wpAny (model prog w) A _ P E { s with heap := ((s.heap.update a (Obj.mapSeq fun _ => #[])).push (seqObj "tuple" vs.toArray 0)).push (seqObj "list" #[] 0) }
    dsimp only
    by_cases h2 : vs.toArray.size < 2
    · rw [if_pos h2, if_pos h2]
      refine wpAny_bind (wpAny_pure ?_)
      rw [StateT.run_pure]
      refine wpAny_bind (wpAny_pure (wpAny_bind (seqEpoch_at ho6 rfl (wpAny_bind (listUpdate_at ho6 rfl ?_ (hsz2 := ?_))))))
      · simp only [bne_self_eq_false, Bool.false_eq_true, if_false]
        refine wpAny_pure (h (SortSt.mk' general' (vs.toArray.zip vs.toArray) #[] 7 none) (Array.Perm.refl _) ?_)
        show (pairsOf vs).toList.Pairwise (Rk κ)
        rw [List.pairwise_iff_getElem]
        intro i j hi hj hij
        rw [Array.length_toList, pairsOf_size] at hj
        omega
      · rw [Array.size_map]; show (pairsOf vs).size ≤ _; rw [pairsOf_size]; exact Nat.le_succ_of_le hz
    · rw [if_neg h2, if_neg h2]
      obtain ⟨v₁, v₂, rest, rfl⟩ : ∃ v₁ v₂ rest, vs = v₁ :: v₂ :: rest := by
        match vs, h2 with
        | [], h2 => exact absurd (show 0 < 2 by omega) h2
        | [_], h2 => exact absurd (show 1 < 2 by omega) h2
        | v₁ :: v₂ :: rest, _ => exact ⟨v₁, v₂, rest, rfl⟩
      rw [hkk _ _ _ rfl]
      refine wpAny_bind (wpAny_pure (wpAny_bind (wpAny_mono (wpS_sortG (κ := κ) hO (a₀ := pairsOf (v₁ :: v₂ :: rest)) (st := SortSt.mk' oneType' ((v₁ :: v₂ :: rest).toArray.zip (v₁ :: v₂ :: rest).toArray) #[] 7 none)
        (Q := fun _ st' => (arrOf st').Perm (pairsOf (v₁ :: v₂ :: rest)) ∧ failedOf st' = none ∧ (arrOf st').toList.Pairwise (Rk κ))
        h0 ⟨Array.Perm.refl _, rfl, rfl, rfl⟩ (by rw [pairsOf_size]; exact Nat.succ_le_succ (Nat.zero_le _)) fun st' a1 a2 a3 => ⟨a1, a2, a3⟩) ?_ fun _ _ e => e)))
      rintro ⟨⟨⟩, st'⟩ s' ⟨rfl, hp, hf, hs⟩
      refine wpAny_bind (seqEpoch_at ho6 rfl (wpAny_bind (listUpdate_at ho6 rfl ?_ (hsz2 := ?_))))
      · rw [hf]
        simp only [bne_self_eq_false, Bool.false_eq_true, if_false]
        exact wpAny_pure (h st' hp hs)
      · exact Nat.le_trans (Nat.le_of_eq ((Array.size_map ..).trans (hp.size_eq.trans (pairsOf_size _)))) (Nat.le_succ_of_le hz)
  · exact hz
def leT (a b : Str) : Prop := decide (b.cps.toList < a.cps.toList) = false
theorem sort_out {vs : List Value} {ss : List Str} (hS : StrsAre vs ss) {xs : Array Keyed} (hp : xs.Perm (pairsOf vs)) (hs : xs.toList.Pairwise (Rk strKind)) :
    ∃ ss', StrsAre (xs.map (·.2)).toList ss' ∧ ss'.Perm ss ∧ ss'.Pairwise leT := by
  obtain ⟨ss', h1, h2, _⟩ := sorted_out_str hS hp (by
    intro i j hij hj
    rw [← hp.size_eq] at hj
    by_cases e : i = j
    · subst e; exact KeyOrd.kle_refl _
    · rw [KK_some (p := xs[i]) (getElem?_pos _ _ _), KK_some (p := xs[j]) (getElem?_pos _ _ _)]
      exact List.pairwise_iff_getElem.mp hs i j (by rw [Array.length_toList]; omega) (by rw [Array.length_toList]; omega) (by omega))
  refine ⟨ss', h1, h2, ?_⟩
  have e := h1.strs
  rw [Array.toList_map, List.map_map] at e
  rw [← e]
  refine List.pairwise_map.mpr (List.Pairwise.imp_of_mem ?_ hs)
  intro p q hp' hq' r
  have mm : ∀ {x : Keyed}, x ∈ xs.toList → ∃ z t, x.1 = .str z t ∧ x.2 = .str z t := fun {x} hx => by
    have hm := mem_zip_self (by rw [← pairsOf_toList]; exact (Array.perm_iff_toList_perm.mp hp).mem_iff.mp hx)
    obtain ⟨z, t, ez⟩ := hS.all _ hm.2
    exact ⟨z, t, ez, by rw [← hm.1]; exact ez⟩
  obtain ⟨z, t, e1, e2⟩ := mm hp'
  obtain ⟨z', t', e3, e4⟩ := mm hq'
  show decide ((strOf q.2).cps.toList < (strOf p.2).cps.toList) = false
  rw [e2, e4]
  have r' : decide ((ky strKind q) < (ky strKind p)) = false := r
  unfold ky at r'
  rw [e1, e3] at r'
  exact r'
theorem leT_antisymm {a b : Str} (h : leT a b) (h' : leT b a) : a = b := by
  have e : a.cps.toList = b.cps.toList := strKind.total _ _ h' h
  obtain ⟨⟨x⟩⟩ := a
  obtain ⟨⟨y⟩⟩ := b
  rw [show x = y from e]
theorem sort_uniq : ∀ {xs ys : List Str}, xs.Perm ys → xs.Pairwise leT → ys.Pairwise leT → xs = ys
  | [], ys, p, _, _ => (List.nil_perm.mp p).symm
  | x :: xs, [], p, _, _ => absurd p.length_eq (by simp)
  | x :: xs, y :: ys, p, h, h' => by
    have e : x = y := by
      rcases List.mem_cons.mp (p.mem_iff.mp (List.mem_cons_self ..)) with e | e
      · exact e
      · rcases List.mem_cons.mp (p.mem_iff.mpr (List.mem_cons_self (a := y) ..)) with e' | e'
        · exact e'.symm
        · exact leT_antisymm ((List.pairwise_cons.mp h).1 y e') ((List.pairwise_cons.mp h').1 x e)
    subst e
    rw [sort_uniq (List.Perm.cons_inv p) (List.pairwise_cons.mp h).2 (List.pairwise_cons.mp h').2]
end
end L3

namespace L2
open PySem PySem.Spec PyProof.Rows

/-! ### lists of pairs as tables -/
section
variable {κ : Type} [DecidableEq κ]
def valV (kvs : List (κ × V)) (k : κ) : Option V := (kvs.find? fun kv => decide (kv.1 = k)).map (·.2)
def putK (kvs : List (κ × V)) (k : κ) (v : V) : List (κ × V) :=
  if (kvs.any fun kv => decide (kv.1 = k)) = true then kvs.map (fun kv => if kv.1 = k then (kv.1, v) else kv) else kvs ++ [(k, v)]
theorem valV_nil {k : κ} : valV ([] : List (κ × V)) k = none := rfl
theorem valV_pos {p : κ × V} {r : List (κ × V)} {k : κ} (e : p.1 = k) : valV (p :: r) k = some p.2 := by simp [valV, List.find?_cons, e]
theorem valV_neg {p : κ × V} {r : List (κ × V)} {k : κ} (e : ¬ p.1 = k) : valV (p :: r) k = valV r k := by simp [valV, List.find?_cons, e]
theorem valV_any (k : κ) : ∀ kvs : List (κ × V), (kvs.any fun kv => decide (kv.1 = k)) = (valV kvs k).isSome
  | [] => rfl
  | p :: r => by
    rw [List.any_cons]
    by_cases e : p.1 = k
    · simp only [valV_pos e, decide_eq_true e, Bool.true_or, Option.isSome_some]
    · rw [valV_neg e, decide_eq_false e, Bool.false_or]; exact valV_any k r
theorem valV_map (k j : κ) (y : V) : ∀ kvs : List (κ × V), valV (kvs.map fun kv => if kv.1 = k then (kv.1, y) else kv) j = (valV kvs j).map fun x => if j = k then y else x
  | [] => rfl
  | p :: r => by
    have ih := valV_map k j y r
    rw [List.map_cons]
    by_cases h : p.1 = k
    · rw [if_pos h]
      by_cases e : p.1 = j
      · rw [valV_pos (p := (p.1, y)) e, valV_pos e, Option.map_some, if_pos (e.symm.trans h)]
      · rw [valV_neg (p := (p.1, y)) e, valV_neg e, ih]
    · rw [if_neg h]
      by_cases e : p.1 = j
      · rw [valV_pos (p := p) e, valV_pos e, Option.map_some, if_neg (fun z => h (e.trans z))]
      · rw [valV_neg (p := p) e, valV_neg e, ih]
theorem valV_snoc (k j : κ) (y : V) : ∀ kvs : List (κ × V), valV kvs k = none → valV (kvs ++ [(k, y)]) j = if j = k then some y else valV kvs j
  | [], _ => by
    by_cases e : k = j
    · rw [if_pos e.symm]; exact valV_pos (p := (k, y)) e
    · rw [if_neg (fun z => e z.symm)]; exact valV_neg (p := (k, y)) e
  | p :: r, hn => by
    rw [List.cons_append]
    have hk : ¬ p.1 = k := fun z => by rw [valV_pos z] at hn; cases hn
    rw [valV_neg hk] at hn
    have ih := valV_snoc k j y r hn
    by_cases e : p.1 = j
    · rw [valV_pos e, valV_pos e, if_neg (fun z => hk (e.trans z))]
    · rw [valV_neg e, valV_neg e, ih]
theorem valV_put (kvs : List (κ × V)) (k j : κ) (y : V) : valV (putK kvs k y) j = if j = k then some y else valV kvs j := by
  unfold putK
  by_cases a : (kvs.any fun kv => decide (kv.1 = k)) = true
  · rw [if_pos a, valV_map]
    rw [valV_any] at a
    by_cases e : j = k
    · obtain ⟨x, hx⟩ := Option.isSome_iff_exists.mp a
      rw [if_pos e, e, hx, Option.map_some, if_pos rfl]
    · rw [if_neg e]
      cases valV kvs j with
      | none => rfl
      | some x => rw [Option.map_some, if_neg e]
  · rw [if_neg a]
    refine valV_snoc k j y kvs ?_
    rw [valV_any] at a
    cases q : valV kvs k with
    | none => rfl
    | some x => rw [q] at a; exact (a rfl).elim
theorem length_putK (kvs : List (κ × V)) (k : κ) (v : V) : (putK kvs k v).length ≤ kvs.length + 1 := by
  unfold putK
  split
  · rw [List.length_map]; omega
  · rw [List.length_append, List.length_cons, List.length_nil]; omega
theorem RelO.isSome_eq {o : Option V} {u : Option Value} (r : RelO o u) : o.isSome = u.isSome := by
  cases o with
  | none => cases u with
    | none => rfl
    | some _ => exact (show False from r).elim
  | some _ => cases u with
    | none => exact (show False from r).elim
    | some _ => rfl
theorem RelO.getD {o : Option V} {u : Option Value} {d : V} {d' : Value} (r : RelO o u) (rd : RelV d d') : RelV (o.getD d) (u.getD d') := by
  cases o with
  | none => cases u with
    | none => exact rd
    | some _ => exact (show False from r).elim
  | some _ => cases u with
    | none => exact (show False from r).elim
    | some _ => exact r

theorem KV.val {kvs : List (κ × V)} {vs : List (κ × Value)} (r : KV kvs vs) (k : κ) : RelO (valV kvs k) (valueAt vs k) := by
  unfold KV at r
  induction r with
  | nil => exact True.intro
  | @cons p q ps qs h t ih =>
    obtain ⟨h1, h2⟩ := h
    by_cases e : p.1 = k
    · have e' : q.1 = k := h1.symm.trans e
      have b : valueAt (q :: qs) k = some q.2 := by simp [valueAt, List.find?_cons, e']
      rw [valV_pos e, b]; exact h2
    · have e' : ¬ q.1 = k := fun z => e (h1.trans z)
      have b : valueAt (q :: qs) k = valueAt qs k := by simp [valueAt, List.find?_cons, e']
      rw [valV_neg e, b]; exact ih
theorem KV.any {kvs : List (κ × V)} {vs : List (κ × Value)} (r : KV kvs vs) (k : κ) : (kvs.any fun kv => decide (kv.1 = k)) = vs.any fun kv => decide (kv.1 = k) := by
  unfold KV at r
  induction r with
  | nil => rfl
  | cons h t ih => rw [List.any_cons, List.any_cons, ih, h.1]
theorem KV.repl {kvs : List (κ × V)} {vs : List (κ × Value)} (r : KV kvs vs) (k : κ) {y : V} {u : Value} (ry : RelV y u) :
    KV (kvs.map fun kv => if kv.1 = k then (kv.1, y) else kv) (vs.map fun kv => if kv.1 = k then (kv.1, u) else kv) := by
  unfold KV at r ⊢
  induction r with
  | nil => exact .nil
  | @cons p q ps qs h t ih =>
    rw [List.map_cons, List.map_cons]
    refine .cons ?_ ih
    obtain ⟨h1, h2⟩ := h
    by_cases e : p.1 = k
    · rw [if_pos e, if_pos (h1.symm.trans e)]; exact ⟨h1, ry⟩
    · rw [if_neg e, if_neg (fun z => e (h1.trans z))]; exact ⟨h1, h2⟩
theorem KV.put {kvs : List (κ × V)} {vs : List (κ × Value)} (r : KV kvs vs) (k : κ) {y : V} {u : Value} (ry : RelV y u) : KV (putK kvs k y) (stored vs k u) := by
  unfold putK stored
  rw [r.any k]
  by_cases e : (vs.any fun kv => decide (kv.1 = k)) = true
  · rw [if_pos e, if_pos e]; exact r.repl k ry
  · rw [if_neg e, if_neg e]; exact Paired.snoc r ⟨rfl, ry⟩
theorem KV.length {kvs : List (κ × V)} {vs : List (κ × Value)} (r : KV kvs vs) : kvs.length = vs.length := Paired.length r
end


/-! ### a tracked dict, its keys ints and texts or tuples of these -/
theorem kV_is {P : Program} {w : World} {k : Key} {u : Value} (r : RelV (kV k) u) : (mixKind P w).is k u = true := by
  cases k with
  | inl i => obtain ⟨t, e⟩ := (show ∃ t, u = Value.int i t from r); subst e; exact mixKind_int P w i t
  | inr x => obtain ⟨t, e⟩ := (show ∃ t, u = Value.str x t from r); subst e; exact mixKind_str P w x t
theorem items_are {P : Program} {w : World} : ∀ {ks : List Key} {us : List Value}, Vals (ks.map kV) us → ItemsAre (mixKind P w) ks us
  | [], _, r => by rw [List.map_nil] at r; cases r; exact .nil
  | k :: ks, _, r => by
    rw [List.map_cons] at r
    cases r with
    | cons h t => exact .cons (kV_is h) (items_are t)

abbrev KT (H : Hp) : List (List Key × V) → List (List Key × Addr × Value) → Prop := Paired fun p q => p.1 = q.1 ∧ H q.2.1 = some (.tup (p.1.map kV)) ∧ RelV p.2 q.2.2
theorem KT.val {H : Hp} {kvs : List (List Key × V)} {xs : List (List Key × Addr × Value)} (r : KT H kvs xs) (k : List Key) : RelO (valV kvs k) ((atKey xs k).map (·.2)) := by
  induction r with
  | nil => exact True.intro
  | @cons p q ps qs h t ih =>
    obtain ⟨h1, _, h2⟩ := h
    by_cases e : p.1 = k
    · have e' : q.1 = k := h1.symm.trans e
      have b : atKey (q :: qs) k = some q.2 := by simp [atKey, List.find?_cons, e']
      rw [valV_pos e, b]; exact h2
    · have e' : ¬ q.1 = k := fun z => e (h1.trans z)
      have b : atKey (q :: qs) k = atKey qs k := by simp [atKey, List.find?_cons, e']
      rw [valV_neg e, b]; exact ih
theorem KT.repl {H : Hp} {kvs : List (List Key × V)} {xs : List (List Key × Addr × Value)} (r : KT H kvs xs) (k : List Key) {y : V} {u : Value} (ry : RelV y u) :
    KT H (kvs.map fun kv => if kv.1 = k then (kv.1, y) else kv) (xs.map (putAt k u)) := by
  induction r with
  | nil => exact .nil
  | @cons p q ps qs h t ih =>
    rw [List.map_cons, List.map_cons]
    refine .cons ?_ ih
    obtain ⟨h1, h2, h3⟩ := h
    unfold putAt
    by_cases e : p.1 = k
    · rw [if_pos e, if_pos (h1.symm.trans e)]; exact ⟨h1, h2, ry⟩
    · rw [if_neg e, if_neg (fun z => e (h1.trans z))]; exact ⟨h1, h2, h3⟩
theorem KT.put {H : Hp} {kvs : List (List Key × V)} {xs : List (List Key × Addr × Value)} (r : KT H kvs xs) (k : List Key) {b : Addr} {y : V} {u : Value} (hb : H b = some (.tup (k.map kV))) (ry : RelV y u) :
    KT H (putK kvs k y) (storedH xs k b u) := by
  have e : (kvs.any fun kv => decide (kv.1 = k)) = (atKey xs k).isSome := by
    rw [valV_any, (r.val k).isSome_eq, Option.isSome_map]
  unfold putK storedH
  rw [e]
  by_cases q : (atKey xs k).isSome = true
  · rw [if_pos q, if_pos q]; exact r.repl k ry
  · rw [if_neg q, if_neg q]; exact Paired.snoc r ⟨rfl, hb, ry⟩
theorem KT.keeps {H H' : Hp} {kvs : List (List Key × V)} {xs : List (List Key × Addr × Value)} (r : KT H kvs xs) (ht : ∀ b ys, H b = some (.tup ys) → H' b = some (.tup ys)) : KT H' kvs xs :=
  Paired.mapP r fun _ _ z => ⟨z.1, ht _ _ z.2.1, z.2.2⟩

section
variable {P : Program} {w : World} {H : Hp} {h : Heap} {a : Addr}
theorem rd_of {u : HO} (ok : HOk P w H h) (e : Rd H a u) : ObjOk P w H h a u := e.ok ok
theorem dk_rd {kvs : List (Key × V)} (ok : HOk P w H h) (e : Rd H a (.dK kvs)) : kvs.length ≤ sizeLine ∧ (a == sysModules) = false ∧ ∃ vs, KV kvs vs ∧ h.DictOf (mixKind P w) a vs :=
  show ObjOk P w H h a (.dK kvs) from rd_of ok e
theorem dk_of {kvs : List (Key × V)} (ok : HOk P w H h) (e : H a = some (.dK kvs)) : kvs.length ≤ sizeLine ∧ (a == sysModules) = false ∧ ∃ vs, KV kvs vs ∧ h.DictOf (mixKind P w) a vs := dk_rd ok (.inl e)
theorem key_of {ks : List Key} (ok : HOk P w H h) (e : H a = some (.tup (ks.map kV))) : (tupleKind (mixKind P w)).is h ks a := by
  obtain ⟨_, its, r, o, h1, h2, n, h3⟩ := (show ObjOk P w H h a (.tup (ks.map kV)) from ok a _ e)
  exact ⟨o, its.toArray, n, h1, h2, h3, by simpa using items_are r⟩
theorem dt_rd {kvs : List (List Key × V)} (ok : HOk P w H h) (e : Rd H a (.dT kvs)) : kvs.length ≤ sizeLine ∧ (a == sysModules) = false ∧
    ∃ xs, KT H kvs xs ∧ h.DictOfH (tupleKind (mixKind P w)) a xs := by
  obtain ⟨z, y, xs, r, o, es, ep, h1, h2, h3, h4, h5⟩ := (show ObjOk P w H h a (.dT kvs) from rd_of ok e)
  refine ⟨z, y, xs, r, o, es, ep, h1, h2, h3, h4, fun x hx => ?_, h5⟩
  have all : ∀ {l : List (List Key × V)} {m : List (List Key × Addr × Value)}, KT H l m → ∀ x ∈ m, (tupleKind (mixKind P w)).is h x.1 x.2.1 := by
    intro l m q
    induction q with
    | nil => intro x hx; exact nomatch hx
    | @cons p q ps qs hq t ih =>
      intro x hx
      rcases List.mem_cons.mp hx with e | hx
      · subst e
        exact key_of ok (by rw [← hq.1]; exact hq.2.1)
      · exact ih x hx
  exact all r x hx
theorem dt_of {kvs : List (List Key × V)} (ok : HOk P w H h) (e : H a = some (.dT kvs)) : kvs.length ≤ sizeLine ∧ (a == sysModules) = false ∧
    ∃ xs, KT H kvs xs ∧ h.DictOfH (tupleKind (mixKind P w)) a xs := dt_rd ok (.inl e)
end

def DGet (H : Hp) (a : Addr) (y : V) (r : Option V) : Prop :=
  (∃ kvs k, Rd H a (.dK kvs) ∧ y = kV k ∧ r = valV kvs k) ∨ ∃ kvs k b, Rd H a (.dT kvs) ∧ y = .ref b ∧ H b = some (.tup (k.map kV)) ∧ r = valV kvs k
def DPut (H : Hp) (a : Addr) (y v : V) (H' : Hp) : Prop :=
  (∃ kvs k, H a = some (.dK kvs) ∧ y = kV k ∧ kvs.length < sizeLine ∧ H' = upd H a (.dK (putK kvs k v))) ∨
  ∃ kvs k b, H a = some (.dT kvs) ∧ y = .ref b ∧ H b = some (.tup (k.map kV)) ∧ kvs.length < sizeLine ∧ H' = upd H a (.dT (putK kvs k v))
theorem DGet.k {H : Hp} {a : Addr} {kvs : List (Key × V)} {k : Key} (e : H a = some (.dK kvs)) : DGet H a (kV k) (valV kvs k) := .inl ⟨kvs, k, .inl e, rfl, rfl⟩
theorem DPut.k {H : Hp} {a : Addr} {kvs : List (Key × V)} {k : Key} {v : V} (e : H a = some (.dK kvs)) (hl : kvs.length < sizeLine) : DPut H a (kV k) v (upd H a (.dK (putK kvs k v))) := .inl ⟨kvs, k, e, rfl, hl, rfl⟩
theorem DPut.t {H : Hp} {a b : Addr} {kvs : List (List Key × V)} {k : List Key} {v : V} (e : H a = some (.dT kvs)) (eb : H b = some (.tup (k.map kV))) (hl : kvs.length < sizeLine) :
    DPut H a (.ref b) v (upd H a (.dT (putK kvs k v))) := .inr ⟨kvs, k, b, e, rfl, eb, hl, rfl⟩


section
variable {X : Cx} {pins : List (Addr × Obj)} {σ : St} {H : Hp} {s : Shared} {a : Addr} {y v : V} {u r : Value} {o : Option V} {A : Around} {E : Value → Shared → Prop}

theorem Inv.big (I : Inv X pins σ H s) : sysModules < s.heap.objs.size := by
  have h : mainGlobals < s.heap.objs.size := (I.mod.glob.keeps I.bk).lt
  exact Nat.lt_trans (by decide) h

theorem d_write {h' : Heap} {t' : Nat} {ob : HO} (I : Inv X pins σ H s) (mu : Mut (H a)) (hs : Heap.SameBut a s.heap h') (he : ∃ q, h'.get? a = some q) (new : ObjOk X.prog X.w (upd H a ob) h' a ob) :
    Inv X pins σ (upd H a ob) { s with heap := h', toks := t' } :=
  I.write (x := a) (e := a) mu (.inl rfl) (fun b q hb z => (hs.2 b hb).trans z) he new
theorem dk_new {P : Program} {w : World} {H' : Hp} {h' : Heap} {kvs : List (Key × V)} {vs : List (Key × Value)} (z : kvs.length ≤ sizeLine) (hd : (a == sysModules) = false) (rel : KV kvs vs) (dd : h'.DictOf (mixKind P w) a vs) :
    ObjOk P w H' h' a (.dK kvs) := ⟨z, hd, vs, rel, dd⟩
theorem d_setItem {H' : Hp} {Q : Unit → Shared → Prop} (hu : A.units + 1 < cLine) (I : Inv X pins σ H s) (g : DPut H a y v H') (ry : RelV y u) (rv : RelV v r) (h : ∀ s', Inv X pins σ H' s' → Q () s') :
    wpAny (model X.prog X.w) A (setItem (.ref a) u r) Q E s := by
  rcases g with ⟨kvs, k, e, ey, l, eH⟩ | ⟨kvs, k, b, e, ey, eb, l, eH⟩
  · subst ey eH
    obtain ⟨z, hd, vs, rel, dd⟩ := dk_of I.hok e
    have hz : vs.length ≤ sizeLine := by rw [← rel.length]; exact z
    have hl : (putK kvs k v).length ≤ sizeLine := by have := length_putK kvs k v; omega
    refine wpAny_setItem_pairs (hsz := hz) (kV_is ry) dd fun h' dd' hs => h _ ?_
    have he : ∃ q, h'.get? a = some q := let ⟨q, _, _, hq, _⟩ := dd'; ⟨q, hq⟩
    exact d_write I (by rw [e]; exact True.intro) hs he (dk_new hl hd (rel.put k rv) dd')
  · subst ey eH
    cases (show u = Value.ref b from ry)
    obtain ⟨z, hd, xs, rel, dd⟩ := dt_of I.hok e
    have hz : xs.length ≤ sizeLine := by rw [← Paired.length rel]; exact z
    have hl : (putK kvs k v).length ≤ sizeLine := by have := length_putK kvs k v; omega
    refine wpAny_setItem_heap (hsz := hz) (tupleKind_room_in1 hu) (key_of I.hok eb) dd fun h' dd' hs => h _ ?_
    obtain ⟨q, es, ep, hq, h2, h3, h4, _, h5⟩ := dd'
    refine d_write I (by rw [e]; exact True.intro) hs ⟨q, hq⟩ ⟨hl, hd, _, (rel.put k eb rv).keeps fun c ys ec => ?_, q, es, ep, hq, h2, h3, h4, h5⟩
    rw [upd_ne (ne_of ec e (fun z => nomatch z))]
    exact ec
end

section
variable {X : Cx} {pins : List (Addr × Obj)} {σ : St} {H : Hp} {s : Shared} {a : Addr} {kvs : List (Key × V)} {k : Key} {u : Value} {A : Around} {E : Value → Shared → Prop}
end


/-! ### readings and rules -/
def sDPut (td ty tv : TE) : TS := fun D σ H => tv σ H fun v H1 => td σ H1 fun x H2 => ty σ H2 fun y H3 => ∃ a H4, x = .ref a ∧ DPut H3 a y v H4 ∧ D.nx σ H4
section
variable {X : Cx} {o i e value : Expr} {pos pos' tpos : Pos} {td ty tv : TE}
theorem ps_dput (hu : X.A.units + 1 < cLine) (ho : PE X o td) (hi : PE X i ty) (hv : PE X value tv) (hs : swapsWith value (some (.Subscript o i pos')) pos.line X.env = pure false) :
    PS X (.Assign [.Subscript o i pos'] value pos) (sDPut td ty tv) := by
  intro pins s σ H D I h
  refine wpAny_Assign_Subscript (thn (hv pins s σ H _ I h) fun r s1 ⟨v, H1, I1, rv, q1⟩ => thn (ho pins s1 σ H1 _ I1 q1) fun u s2 ⟨x, H2, I2, rx, q2⟩ => thn (hi pins s2 σ H2 _ I2 q2) fun iv s3 ⟨y, H3, I3, ry, a, H4, ex, g, q3⟩ => ?_) hs
  subst ex
  obtain rfl : u = Value.ref a := rx
  exact d_setItem hu I3 g ry rv fun s4 I4 => ⟨σ, H4, I4, q3⟩
end


/-! ### displays -/
theorem dk_empty {P : Program} {w : World} {H : Hp} (h : Heap) (hb : sysModules < h.objs.size) : ObjOk P w H (h.push { cls := .type "dict", data := .dict #[] }) h.objs.size (.dK []) :=
  ⟨Nat.zero_le _, beq_eq_false_iff_ne.mpr (Ne.symm (Nat.ne_of_lt hb)), [], .nil, Heap.DictOf.new h⟩
theorem dt_empty {P : Program} {w : World} {H : Hp} (h : Heap) (hb : sysModules < h.objs.size) : ObjOk P w H (h.push { cls := .type "dict", data := .dict #[] }) h.objs.size (.dT []) :=
  ⟨Nat.zero_le _, beq_eq_false_iff_ne.mpr (Ne.symm (Nat.ne_of_lt hb)), [], .nil, _, #[], 0, Heap.get?_push_size _ rfl, ⟨rfl, rfl, rfl⟩, rfl, rfl, List.nodup_nil⟩
def tDNewK : TE := fun _ H Q => ∀ p, H p = none → Q (.ref p) (upd H p (.dK []))
def tDNewT : TE := fun _ H Q => ∀ p, H p = none → Q (.ref p) (upd H p (.dT []))
section
variable {X : Cx} {pos : Pos}
theorem pe_dnewK : PE X (.Dict [] [] pos) tDNewK := fun pins s σ H Q I h =>
  wpAny_Dict_empty ⟨.ref s.heap.objs.size, _, I.laid (a := s.heap.objs.size) (o := .dK []) (t' := s.toks) (fun _ _ q => Heap.get?_push_of_some _ q) (Nat.le_refl _) (dk_empty s.heap I.big), rfl, h _ (I.hok.fresh (Nat.le_refl _))⟩
theorem pe_dnewT : PE X (.Dict [] [] pos) tDNewT := fun pins s σ H Q I h =>
  wpAny_Dict_empty ⟨.ref s.heap.objs.size, _, I.laid (a := s.heap.objs.size) (o := .dT []) (t' := s.toks) (fun _ _ q => Heap.get?_push_of_some _ q) (Nat.le_refl _) (dt_empty s.heap I.big), rfl, h _ (I.hok.fresh (Nat.le_refl _))⟩
end

def tPairs : List (TE × TE) → St → Hp → (List (V × V) → Hp → Prop) → Prop
  | [], _, H, Q => Q [] H
  | (tk, tv) :: r, σ, H, Q => tk σ H fun x H1 => tv σ H1 fun y H2 => tPairs r σ H2 fun ps H3 => Q ((x, y) :: ps) H3
/-! ### methods -/
section
variable {X : Cx} {pins : List (Addr × Obj)} {σ : St} {H : Hp} {s : Shared} {a : Addr} {y d : V} {u r : Value} {o : Option V} {A : Around} {E : Value → Shared → Prop}
theorem d_get2 {Q : Value → Shared → Prop} (hu : A.units + 1 < cLine) (I : Inv X pins σ H s) (g : DGet H a y o) (ry : RelV y u) (rd : RelV d r) (h : ∀ w' s', Inv X pins σ H s' → RelV (o.getD d) w' → Q w' s') :
    wpAny (model X.prog X.w) A (call (.builtin "dict.get") [.ref a, u, r]) Q E s := by
  rcases g with ⟨kvs, k, e, ey, l⟩ | ⟨kvs, k, b, e, ey, eb, l⟩
  · subst ey
    obtain ⟨z, hd, vs, rel, dd⟩ := dk_rd I.hok e
    refine call_meetsIn PySem.F.slot_dict_get dd.typeIs PySem.F.entry_dict_get (PySem.F.args_dict_get_3 _ _ _) (meets_dict_get_default (mixKind X.prog X.w) a (kV_is ry) hd r) ⟨_, dd.mapOf, h _ _ (I.tok _) ?_⟩
    rw [l]
    exact (rel.val k).getD rd
  · subst ey
    cases (show u = Value.ref b from ry)
    obtain ⟨z, hd, xs, rel, dd⟩ := dt_rd I.hok e
    refine call_meetsIn PySem.F.slot_dict_get dd.typeIs PySem.F.entry_dict_get (PySem.F.args_dict_get_3 _ _ _) (meetsH_dict_get_default (tupleKind (mixKind X.prog X.w)) a b hd r) ⟨tupleKind_room_in1 hu, k, xs, key_of I.hok eb, dd, h _ _ (I.tok _) ?_⟩
    rw [l]
    exact (rel.val k).getD rd
end

section
variable {X : Cx} {o e f : Expr} {apos cpos : Pos} {td ty tx : TE}
end

/-! ### dict(d): a copy -/
section
variable {X : Cx} {pins : List (Addr × Obj)} {σ : St} {H : Hp} {s : Shared} {a : Addr} {kvs : List (Key × V)} {A : Around} {E : Value → Shared → Prop}
end


section
variable {X : Cx} {pins : List (Addr × Obj)} {σ : St} {H : Hp} {s : Shared} {a : Addr} {y : V} {u : Value} {A : Around} {E : Value → Shared → Prop}
end
section
variable {X : Cx}
end
/-! ### a dict's pairs: keys that differ -/
section
variable {κ : Type} [DecidableEq κ]
end
end L2


/-! Own additions to the hand layer: slices of texts, unpacking a list, isinstance, calls by a bundle. -/
namespace L3
open PySem PySem.Spec PyProof.Rows L2
theorem bt_len : bootBuiltins "len" = some (.builtin "len") := by decide +kernel
theorem bt_min : bootBuiltins "min" = some (.builtin "min") := by decide +kernel
theorem bt_list : bootBuiltins "list" = some (.type "list") := by decide +kernel
/-! ### texts as lists of codes -/
abbrev cl (z : Str) : List Nat := z.cps.toList
theorem str_ext {a b : Str} (h : cl a = cl b) : a = b := by
  cases a; cases b; congr 1; exact Array.ext' h
theorem cl_append (a b : Str) : cl (a ++ b) = cl a ++ cl b := by
  show (a.cps ++ b.cps).toList = _
  rw [Array.toList_append]
theorem cl_length (a : Str) : (cl a).length = a.length := by
  show a.cps.toList.length = a.cps.size
  rw [Array.length_toList]
section
variable {X : Cx}
/-! ### an own def as a caller sees it -/
def Cal (P : Program) (w : World) (K : PySem.W.Frag) (mg : Str → Option Value) (base : Heap) (x : Str) (ps : List Str) (k : Nat) (sp : Sp) : Prop :=
  ∃ f fd, FnOk P w K mg base CX0 k f fd ps sp ∧ Binds K fd ps [] ∧ PySem.W.keepIn K (.ref f) = true ∧ mg x = some (.ref f)
def tFn (sp : Sp) (t : TA) : TE := fun σ H Q => t σ H fun vs H1 => sp vs H1 Q E0
theorem pe_fn {x : Str} {ps : List Str} {k k' : Nat} {sp : Sp} {p pos : Pos} {e : Expr} {es : List Expr} {t : TA} (C : Cal X.prog X.w X.K X.mg X.base x ps k sp) (hr : Room k' X.A) (hk : k ≤ k') (hg : Gl X x)
    (ha : PA X (e :: es) t) (hdb : (x == ("__debug__" : Str)) = false := by decide) (he : starEach (e :: es) X.env = (false, eval e X.env) :: starEach es X.env := by rfl) (hpl : (backTo pos (starEach es X.env)).any (·.1) = false := by rfl) :
    PE X (.Call (.Name x p) (e :: es) [] pos) (tFn sp t) := by
  obtain ⟨f, fd, F, b, kp, hm⟩ := C
  intro pins s σ H Q I h
  refine wpAny_Call_Name_kw (ld_glob I hg hm ?_ hdb)
  refine PySem.W.callWith_K (h₀ := X.base) I.ok.mod.kin kp (thn (ha pos pins s σ H _ I h) fun us s1 ⟨vs, H1, I1, r, q⟩ => ⟨I1.kIn, ?_⟩) he hpl
  exact run_fn (dvs := []) F (hr.mono hk) b .nil pass0 I1 r (by rw [List.append_nil]; exact q)
end
/-! ### a cut: what holds behind a statement, a value that is forgotten but for a word -/
section
variable {X : Cx}
def tMid (t u : TS) : TS := fun D σ H => ∃ M : L2.St → Hp → Prop, t { D with nx := M } σ H ∧ ∀ σ' H', M σ' H' → u D σ' H'
theorem pss_mid {st : Stmt} {rest : List Stmt} {t u : TS} (h1 : PS X st t) (h2 : PSs X rest u) : PSs X (st :: rest) (tMid t u) := by
  intro pins s σ H D I h
  obtain ⟨M, ht, hu⟩ := h
  refine wpAny_execs_cons (thn (h1 pins s σ H { D with nx := M } I ht) fun f s1 q => ?_)
  cases f with
  | next =>
    obtain ⟨σ', H', I', q⟩ := q
    exact h2 pins s1 σ' H' D I' (hu σ' H' q)
  | ret v => exact q
  | brk => exact q
  | cont => exact q
def tAbs (t : TE) : TE := fun σ H Q => ∃ P : V → Hp → Prop, t σ H P ∧ ∀ v H', P v H' → Q v H'
theorem pe_abs {e : Expr} {t : TE} (h : PE X e t) : PE X e (tAbs t) := by
  intro pins s σ H Q I hw
  obtain ⟨P, ht, hq⟩ := hw
  exact thn (h pins s σ H P I ht) fun u s1 ⟨v, H1, I1, r1, q1⟩ => ⟨v, H1, I1, r1, hq v H1 q1⟩
def tAbsT (t : TT) : TT := fun σ H Q => ∃ P : Bool → Hp → Prop, t σ H P ∧ ∀ v H', P v H' → Q v H'
theorem pt_abs {e : Expr} {t : TT} (h : PT X e t) : PT X e (tAbsT t) := by
  intro pins s σ H Q I hw
  obtain ⟨P, ht, hq⟩ := hw
  exact thn (h pins s σ H P I ht) fun u s1 ⟨H1, I1, q1⟩ => ⟨H1, I1, hq u H1 q1⟩
def rPick (K : PySem.W.Frag) : R2 := fun x y H Q => ∃ p xs i, x = .ref p ∧ y = .int i ∧ SqL K H p xs ∧ 0 ≤ i ∧ i < xs.length ∧ ∃ W : V → Prop, (∀ v ∈ xs, W v) ∧ ∀ v, W v → Q v H
theorem ix_pick : IxR X (rPick X.K) := by
  intro value slice pins s σ H x y v u Q I rx ry h hs
  obtain ⟨p, xs, i, rfl, rfl, hq, h0, h1, W, hW, q⟩ := h
  obtain ⟨n, rfl⟩ := Int.eq_ofNat_of_zero_le h0
  have hn : n < xs.length := by omega
  exact ix_list value slice pins s σ H _ _ v u Q I rx ry ⟨p, xs, _, xs[n], rfl, rfl, hq, atI_nat (by rw [List.getElem?_eq_getElem hn]), q _ (hW _ (List.getElem_mem hn))⟩ hs
end
theorem pz {j : Int} (h : decide (0 < j) = true := by decide) : 0 < j := of_decide_eq_true h
theorem iteD {c A B : Prop} [Decidable c] (hc : ¬ c) (h : B) : if decide c = true then A else B := by
  rw [decide_eq_false hc]
  exact iteF h
theorem iteDT {c A B : Prop} [Decidable c] (hc : c) (h : A) : if decide c = true then A else B := by
  rw [decide_eq_true hc]
  exact iteT h
theorem iteDd {c A B : Prop} [Decidable c] (h1 : c → A) (h2 : ¬ c → B) : if decide c = true then A else B := by
  by_cases h : c
  · exact iteDT h (h1 h)
  · exact iteD h (h2 h)
theorem iteNd {c A B : Prop} [Decidable c] (h1 : ¬ c → A) (h2 : c → B) : if (!decide c) = true then A else B := by
  by_cases h : c
  · rw [decide_eq_true h]; exact iteF (h2 h)
  · rw [decide_eq_false h]; exact iteT (h1 h)
theorem same_new {H : Hp} {p : Addr} (h : H p = none) (o : HO) : Same H (upd H p o) := fun b u q => by rw [upd_ne (ne_of_none q h)]; exact q
theorem at_mem {α : Type} {xs : List α} {i : Int} (h0 : 0 ≤ i) (h1 : i < xs.length) : ∃ v, atI xs i = some v ∧ v ∈ xs := by
  obtain ⟨n, rfl⟩ := Int.eq_ofNat_of_zero_le h0
  have hn : n < xs.length := by omega
  exact ⟨xs[n], atI_nat (by rw [List.getElem?_eq_getElem hn]), List.getElem_mem hn⟩
theorem at_some {α : Type} {xs : List α} {i : Int} (h0 : 0 ≤ i) (h1 : i < xs.length) : ∃ v, atI xs i = some v ∧ xs[i.toNat]? = some v := by
  obtain ⟨n, rfl⟩ := Int.eq_ofNat_of_zero_le h0
  have hn : n < xs.length := by omega
  exact ⟨xs[n], atI_nat (by rw [List.getElem?_eq_getElem hn]), by simp [hn]⟩
theorem szl {n : Nat} (h : n ≤ 100000) : n ≤ sizeLine := Nat.le_trans h (by rw [sizeLine_eq]; decide)
end L3

/-! Deep data: what a value stands for (numbers, texts, tuples and lists within one another), and == and in over it. -/
namespace L3
open PySem PySem.Spec PyProof.Rows L2 PySem.SeqAt

inductive D where
  | non | bl (b : Bool) | int (i : Int) | str (x : Str) | tup (xs : List D) | lst (xs : List D)

mutual
def Rep (K : PySem.W.Frag) (H : Hp) : D → V → Prop
  | .non, v => v = .non
  | .bl b, v => v = .bl b
  | .int i, v => v = .int i
  | .str x, v => v = .str x
  | .tup ds, v => ∃ a xs, v = .ref a ∧ SqT K H a xs ∧ Reps K H ds xs
  | .lst ds, v => ∃ a xs, v = .ref a ∧ SqL K H a xs ∧ Reps K H ds xs
def Reps (K : PySem.W.Frag) (H : Hp) : List D → List V → Prop
  | [], vs => vs = []
  | d :: ds, vs => ∃ v r, vs = v :: r ∧ Rep K H d v ∧ Reps K H ds r
end
theorem Same.seqT {K : PySem.W.Frag} {H H' : Hp} {a : Addr} {xs : List V} (e : Same H H') (h : SqT K H a xs) : SqT K H' a xs := by
  rcases h with (h | ⟨o, h⟩) | h
  · exact .inl (.inl (e _ _ h))
  · exact .inl (.inr ⟨o, e _ _ h⟩)
  · exact .inr h
mutual
theorem Rep.mono {K : PySem.W.Frag} {H H' : Hp} (g : Same H H') : ∀ (d : D) (v : V), Rep K H d v → Rep K H' d v
  | .non, _, h => by unfold Rep at h ⊢; exact h
  | .bl _, _, h => by unfold Rep at h ⊢; exact h
  | .int _, _, h => by unfold Rep at h ⊢; exact h
  | .str _, _, h => by unfold Rep at h ⊢; exact h
  | .tup ds, _, h => by
    unfold Rep at h ⊢
    obtain ⟨a, xs, e, q, r⟩ := h
    exact ⟨a, xs, e, Same.seqT g q, Reps.mono g ds xs r⟩
  | .lst ds, _, h => by
    unfold Rep at h ⊢
    obtain ⟨a, xs, e, q, r⟩ := h
    exact ⟨a, xs, e, g.seq q, Reps.mono g ds xs r⟩
theorem Reps.mono {K : PySem.W.Frag} {H H' : Hp} (g : Same H H') : ∀ (ds : List D) (vs : List V), Reps K H ds vs → Reps K H' ds vs
  | [], _, h => by unfold Reps at h ⊢; exact h
  | d :: ds, _, h => by
    unfold Reps at h ⊢
    obtain ⟨v, r, e, q, t⟩ := h
    exact ⟨v, r, e, Rep.mono g d v q, Reps.mono g ds r t⟩
end
theorem Reps.nil {K : PySem.W.Frag} {H : Hp} : Reps K H [] [] := by unfold Reps; rfl
theorem Reps.cons {K : PySem.W.Frag} {H : Hp} {d : D} {v : V} {ds : List D} {vs : List V} (h : Rep K H d v) (t : Reps K H ds vs) : Reps K H (d :: ds) (v :: vs) := by
  unfold Reps; exact ⟨v, vs, rfl, h, t⟩
theorem Reps.inv {K : PySem.W.Frag} {H : Hp} {d : D} {ds : List D} {vs : List V} (h : Reps K H (d :: ds) vs) : ∃ v r, vs = v :: r ∧ Rep K H d v ∧ Reps K H ds r := by
  unfold Reps at h; exact h
theorem Reps.inv0 {K : PySem.W.Frag} {H : Hp} {vs : List V} (h : Reps K H [] vs) : vs = [] := by
  unfold Reps at h; exact h
theorem Reps.length {K : PySem.W.Frag} {H : Hp} : ∀ {ds : List D} {vs : List V}, Reps K H ds vs → ds.length = vs.length
  | [], _, h => by rw [h.inv0]; rfl
  | d :: ds, _, h => by
    obtain ⟨v, r, rfl, _, t⟩ := h.inv
    rw [List.length_cons, List.length_cons, Reps.length t]
/-! ### Python's == -/
mutual
def eqD : D → D → Bool
  | .non, .non => true
  | .bl a, .bl b => a == b
  | .bl a, .int b => (if a then 1 else 0) == b
  | .int a, .bl b => a == (if b then 1 else 0)
  | .int a, .int b => a == b
  | .str a, .str b => a == b
  | .tup xs, .tup ys => eqDs xs ys
  | .lst xs, .lst ys => eqDs xs ys
  | _, _ => false
def eqDs : List D → List D → Bool
  | [], [] => true
  | x :: xs, y :: ys => eqD x y && eqDs xs ys
  | _, _ => false
end
mutual
def deep : D → Nat
  | .tup xs => deeps xs + 1
  | .lst xs => deeps xs + 1
  | _ => 0
def deeps : List D → Nat
  | [] => 0
  | x :: xs => max (deep x) (deeps xs)
end
mutual
theorem eqD_refl : ∀ d : D, eqD d d = true
  | .non => by simp [eqD]
  | .bl b => by simp [eqD]
  | .int i => by simp [eqD]
  | .str x => by simp [eqD]
  | .tup xs => by rw [eqD]; exact eqDs_refl xs
  | .lst xs => by rw [eqD]; exact eqDs_refl xs
theorem eqDs_refl : ∀ xs : List D, eqDs xs xs = true
  | [] => by simp [eqDs]
  | x :: xs => by rw [eqDs, eqD_refl x, eqDs_refl xs]; rfl
end
/-! no truths within -/
mutual
def noB : D → Bool
  | .bl _ => false
  | .tup xs => noBs xs
  | .lst xs => noBs xs
  | _ => true
def noBs : List D → Bool
  | [] => true
  | x :: xs => noB x && noBs xs
end
mutual
theorem eqD_eq : ∀ d e : D, noB d = true → noB e = true → eqD d e = true → d = e
  | .non, e, _, h2, h => by cases e <;> simp_all [eqD]
  | .bl b, e, h1, _, _ => by simp [noB] at h1
  | .int i, e, _, h2, h => by cases e <;> simp_all [eqD, noB]
  | .str x, e, _, h2, h => by cases e <;> simp_all [eqD]
  | .tup xs, e, h1, h2, h => by
    cases e <;> simp only [eqD, noB, Bool.false_eq_true] at h1 h2 h
    rw [eqDs_eq _ _ h1 h2 h]
  | .lst xs, e, h1, h2, h => by
    cases e <;> simp only [eqD, noB, Bool.false_eq_true] at h1 h2 h
    rw [eqDs_eq _ _ h1 h2 h]
theorem eqDs_eq : ∀ xs ys : List D, noBs xs = true → noBs ys = true → eqDs xs ys = true → xs = ys
  | [], ys, _, _, h => by cases ys <;> simp_all [eqDs]
  | x :: xs, ys, h1, h2, h => by
    cases ys with
    | nil => simp [eqDs] at h
    | cons y ys =>
      simp only [eqDs, noBs, Bool.and_eq_true] at h1 h2 h
      rw [eqD_eq x y h1.1 h2.1 h.1, eqDs_eq xs ys h1.2 h2.2 h.2]
end
def pickEq (xs ys : List D) (j : Nat) : Bool := match xs[j]?, ys[j]? with
  | some x, some y => eqD x y
  | _, _ => false
theorem eqDs_all : ∀ xs ys : List D, eqDs xs ys = ((List.range (min xs.length ys.length)).all (pickEq xs ys) && (xs.length == ys.length))
  | [], [] => by simp [eqDs]
  | [], y :: ys => by simp [eqDs]
  | x :: xs, [] => by simp [eqDs]
  | x :: xs, y :: ys => by
    have ih := eqDs_all xs ys
    have e : min (x :: xs).length (y :: ys).length = min xs.length ys.length + 1 := by simp only [List.length_cons]; omega
    have p : pickEq (x :: xs) (y :: ys) ∘ Nat.succ = pickEq xs ys := by
      funext j; simp [pickEq]
    rw [eqDs, e, List.range_succ_eq_map, List.all_cons, List.all_map, p, ih]
    have q : pickEq (x :: xs) (y :: ys) 0 = eqD x y := by simp [pickEq]
    have l : ((x :: xs).length == (y :: ys).length) = (xs.length == ys.length) := by
      simp only [List.length_cons]
      by_cases h : xs.length = ys.length <;> simp [h]
    rw [q, l, Bool.and_assoc]

section
variable {X : Cx} {pins : List (Addr × Obj)} {σ : L2.St} {H : Hp} {s : Shared}
/-! a value stands for one datum -/
mutual
theorem Rep.inj (I : Inv X pins σ H s) : ∀ (d e : D) (v : V), Rep X.K H d v → Rep X.K H e v → d = e
  | .non, e, v, h, k => by unfold Rep at h; subst h; cases e <;> simp [Rep] at k <;> rfl
  | .bl b, e, v, h, k => by unfold Rep at h; subst h; cases e <;> simp [Rep] at k; rw [k]
  | .int i, e, v, h, k => by unfold Rep at h; subst h; cases e <;> simp [Rep] at k; rw [k]
  | .str x, e, v, h, k => by unfold Rep at h; subst h; cases e <;> simp [Rep] at k; rw [k]
  | .tup ds, e, v, h, k => by
    unfold Rep at h
    obtain ⟨a, xs, rfl, q, r⟩ := h
    cases e with
    | tup es =>
      unfold Rep at k
      obtain ⟨b, ys, e1, q2, r2⟩ := k
      cases e1
      have := I.tuple_inj q q2
      subst this
      rw [Reps.inj I ds es xs r r2]
    | lst es =>
      unfold Rep at k
      obtain ⟨b, ys, e1, q2, r2⟩ := k
      cases e1
      obtain ⟨i1, _, t1, _⟩ := I.tuple q
      obtain ⟨i2, _, t2, _⟩ := I.list q2
      exact absurd rfl (ne_of_list_tuple t2.isList (let ⟨o, h1, h2, n, h3⟩ := t1; ⟨o, h1, h2, n, h3⟩))
    | _ => simp [Rep] at k
  | .lst ds, e, v, h, k => by
    unfold Rep at h
    obtain ⟨a, xs, rfl, q, r⟩ := h
    cases e with
    | lst es =>
      unfold Rep at k
      obtain ⟨b, ys, e1, q2, r2⟩ := k
      cases e1
      have := I.list_inj q q2
      subst this
      rw [Reps.inj I ds es xs r r2]
    | tup es =>
      unfold Rep at k
      obtain ⟨b, ys, e1, q2, r2⟩ := k
      cases e1
      obtain ⟨i1, _, t1, _⟩ := I.tuple q2
      obtain ⟨i2, _, t2, _⟩ := I.list q
      exact absurd rfl (ne_of_list_tuple t2.isList (let ⟨o, h1, h2, n, h3⟩ := t1; ⟨o, h1, h2, n, h3⟩))
    | _ => simp [Rep] at k
theorem Reps.inj (I : Inv X pins σ H s) : ∀ (ds es : List D) (vs : List V), Reps X.K H ds vs → Reps X.K H es vs → ds = es
  | [], es, vs, h, k => by
    rw [h.inv0] at k
    cases es with
    | nil => rfl
    | cons e es => obtain ⟨_, _, z, _⟩ := k.inv; cases z
  | d :: ds, es, vs, h, k => by
    obtain ⟨v, r, rfl, q, t⟩ := h.inv
    cases es with
    | nil => have z := k.inv0; cases z
    | cons e es =>
      obtain ⟨_, _, z, q2, t2⟩ := k.inv
      cases z
      rw [Rep.inj I d e v q q2, Reps.inj I ds es r t t2]
end
end
end L3

/-! == and != and in over deep data. -/
namespace L3
open PySem PySem.Spec PyProof.Rows L2 PySem.SeqAt
section
variable {X : Cx} {pins : List (Addr × Obj)} {σ : L2.St} {H : Hp} {s : Shared} {A : Around}
theorem in1_units (A : Around) : A.in1.units = A.units + 1 := rfl
abbrev Elts (A : Around) (s : Shared) (xs ys : List V) (ds es : List D) : Prop :=
  ∀ us ws, Vals xs us → Vals ys ws → ∀ (j : Nat) v u, us[j]? = some v → ws[j]? = some u → EqAt A s v u (pickEq ds es j)
theorem rc_tup {a b : Addr} {xs ys : List V} {ds es : List D} (I : Inv X pins σ H s) (q : SqT X.K H a xs) (r : Reps X.K H ds xs) (q2 : SqT X.K H b ys) (r2 : Reps X.K H es ys) (hu : A.units < cLine) (he : Elts A.in1 s xs ys ds es) :
    RcAt A s (.ref a) (.ref b) (eqDs ds es) ∧ RcNeAt A s (.ref a) (.ref b) (!eqDs ds es) := by
  obtain ⟨us, rv, t1, _⟩ := I.tuple q
  obtain ⟨ws, rw', t2, _⟩ := I.tuple q2
  have l1 : us.toArray.size = ds.length := by rw [List.size_toArray, ← rv.length, r.length]
  have l2 : ws.toArray.size = es.length := by rw [List.size_toArray, ← rw'.length, r2.length]
  have el : ∀ j (h1 : j < us.toArray.size) (h2 : j < ws.toArray.size), EqAt A.in1 s us.toArray[j] ws.toArray[j] (pickEq ds es j) := fun j h1 h2 =>
    he us ws rv rw' j _ _ (by simp at h1 ⊢) (by simp at h2 ⊢)
  have e := RcAt.tuples (A := A) (s := s) (l := a) (b := b) t1 t2 hu el
  have n := RcNeAt.tuples (A := A) (s := s) (l := a) (b := b) t1 t2 hu el
  rw [l1, l2, ← eqDs_all] at e n
  exact ⟨e, n⟩
theorem rc_lst {a b : Addr} {xs ys : List V} {ds es : List D} (I : Inv X pins σ H s) (q : SqL X.K H a xs) (r : Reps X.K H ds xs) (q2 : SqL X.K H b ys) (r2 : Reps X.K H es ys) (hu : A.units < cLine) (he : Elts A.in1 s xs ys ds es) :
    RcAt A s (.ref a) (.ref b) (eqDs ds es) ∧ RcNeAt A s (.ref a) (.ref b) (!eqDs ds es) := by
  obtain ⟨us, rv, t1, _⟩ := I.list q
  obtain ⟨ws, rw', t2, _⟩ := I.list q2
  have l1 : us.toArray.size = ds.length := by rw [List.size_toArray, ← rv.length, r.length]
  have l2 : ws.toArray.size = es.length := by rw [List.size_toArray, ← rw'.length, r2.length]
  have el : ∀ j (h1 : j < us.toArray.size) (h2 : j < ws.toArray.size), EqAt A.in1 s us.toArray[j] ws.toArray[j] (pickEq ds es j) := fun j h1 h2 =>
    he us ws rv rw' j _ _ (by simp at h1 ⊢) (by simp at h2 ⊢)
  by_cases hl : ds.length = es.length
  · have e := RcAt.lists (A := A) (s := s) (l := a) (b := b) t1.isList t2.isList (by omega) hu el
    have n := RcNeAt.lists (A := A) (s := s) (l := a) (b := b) t1.isList t2.isList (by omega) hu el
    have z : eqDs ds es = (List.range ds.length).all (pickEq ds es) := by
      rw [eqDs_all, hl]; simp
    rw [l1, ← z] at e n
    exact ⟨e, n⟩
  · have hs : (us.toArray.size != ws.toArray.size) = true := by rw [l1, l2]; simpa using hl
    have e := RcAt.lists_lengths (A := A) (s := s) (l := a) (b := b) t1.isList t2.isList hs hu
    have n := RcNeAt.lists_lengths (A := A) (s := s) (l := a) (b := b) t1.isList t2.isList hs hu
    have z : eqDs ds es = false := by
      rw [eqDs_all]; simp [hl]
    rw [z]
    exact ⟨e, n⟩
mutual
theorem eqAtD (I : Inv X pins σ H s) : ∀ (d e : D) (A : Around) (v u : V) (v' u' : Value), Rep X.K H d v → Rep X.K H e u → RelV v v' → RelV u u' → A.units + deep d < cLine → EqAt A s v' u' (eqD d e)
  | .non, e, A, v, u, v', u', hd, he, rv, ru, hu => by
    unfold Rep at hd; subst hd; cases rv
    cases e <;> unfold Rep at he
    · subst he; cases ru; exact EqAt.same _
    · subst he; cases ru; exact EqAt.none_bool _
    · subst he; obtain ⟨t, rfl⟩ := ru; exact EqAt.none_int _ _
    · subst he; obtain ⟨t, rfl⟩ := ru; exact EqAt.none_str _ _
    · obtain ⟨a, xs, rfl, q, _⟩ := he; cases ru; obtain ⟨_, _, t, _⟩ := I.tuple q; exact EqAt.none_tuple t (by omega)
    · obtain ⟨a, xs, rfl, q, _⟩ := he; cases ru; obtain ⟨_, _, t, _⟩ := I.list q; exact EqAt.none_list t.isList (by omega)
  | .bl b, e, A, v, u, v', u', hd, he, rv, ru, hu => by
    unfold Rep at hd; subst hd; cases rv
    cases e <;> unfold Rep at he
    · subst he; cases ru; exact EqAt.bool_none _
    · subst he; cases ru; exact EqAt.bool_bool _ _
    · subst he; obtain ⟨t, rfl⟩ := ru; exact EqAt.bool_int _ _ _
    · subst he; obtain ⟨t, rfl⟩ := ru; exact EqAt.bool_str _ _ _
    · obtain ⟨a, xs, rfl, q, _⟩ := he; cases ru; obtain ⟨_, _, t, _⟩ := I.tuple q; exact EqAt.bool_tuple _ t (by omega)
    · obtain ⟨a, xs, rfl, q, _⟩ := he; cases ru; obtain ⟨_, _, t, _⟩ := I.list q; exact EqAt.bool_list _ t.isList (by omega)
  | .int i, e, A, v, u, v', u', hd, he, rv, ru, hu => by
    unfold Rep at hd; subst hd; obtain ⟨t0, rfl⟩ := rv
    cases e <;> unfold Rep at he
    · subst he; cases ru; exact EqAt.int_none _ _
    · subst he; cases ru; exact EqAt.int_bool _ _ _
    · subst he; obtain ⟨t, rfl⟩ := ru; exact EqAt.int_int _ _ _ _
    · subst he; obtain ⟨t, rfl⟩ := ru; exact EqAt.int_str _ _ _ _
    · obtain ⟨a, xs, rfl, q, _⟩ := he; cases ru; obtain ⟨_, _, t, _⟩ := I.tuple q; exact EqAt.int_tuple _ _ t (by omega)
    · obtain ⟨a, xs, rfl, q, _⟩ := he; cases ru; obtain ⟨_, _, t, _⟩ := I.list q; exact EqAt.int_list _ _ t.isList (by omega)
  | .str x, e, A, v, u, v', u', hd, he, rv, ru, hu => by
    unfold Rep at hd; subst hd; obtain ⟨t0, rfl⟩ := rv
    cases e <;> unfold Rep at he
    · subst he; cases ru; exact EqAt.str_none _ _
    · subst he; cases ru; exact EqAt.str_bool _ _ _
    · subst he; obtain ⟨t, rfl⟩ := ru; exact EqAt.str_int _ _ _ _
    · subst he; obtain ⟨t, rfl⟩ := ru; exact EqAt.str_str _ _ _ _
    · obtain ⟨a, xs, rfl, q, _⟩ := he; cases ru; obtain ⟨_, _, t, _⟩ := I.tuple q; exact EqAt.str_tuple _ _ t (by omega)
    · obtain ⟨a, xs, rfl, q, _⟩ := he; cases ru; obtain ⟨_, _, t, _⟩ := I.list q; exact EqAt.str_list _ _ t.isList (by omega)
  | .tup ds, e, A, v, u, v', u', hd, he, rv, ru, hu => by
    have hd0 := hd
    have he0 := he
    unfold Rep at hd
    obtain ⟨a, xs, rfl, q, r⟩ := hd
    cases rv
    rw [deep] at hu
    obtain ⟨_, _, t0, _⟩ := I.tuple q
    cases e <;> unfold Rep at he
    · subst he; cases ru; exact EqAt.tuple_none t0 (by omega)
    · subst he; cases ru; exact EqAt.tuple_bool _ t0 (by omega)
    · subst he; obtain ⟨t, rfl⟩ := ru; exact EqAt.tuple_int _ _ t0 (by omega)
    · subst he; obtain ⟨t, rfl⟩ := ru; exact EqAt.tuple_str _ _ t0 (by omega)
    · rename_i es
      obtain ⟨b, ys, rfl, q2, r2⟩ := he
      cases ru
      by_cases hab : a = b
      · subst hab
        rw [Rep.inj I _ _ _ hd0 he0, eqD_refl]
        exact EqAt.same _
      · rw [eqD]
        exact EqAt.of_refs hab (rc_tup I q r q2 r2 (by omega) fun us ws w1 w2 j v u e1 e2 => eqAtDs I ds es A.in1 xs ys us ws r r2 w1 w2 (by rw [in1_units]; omega) j v u e1 e2).1
    · obtain ⟨b, ys, rfl, q2, r2⟩ := he
      cases ru
      obtain ⟨_, _, t, _⟩ := I.list q2
      exact EqAt.tuple_list t0 t.isList (by omega)
  | .lst ds, e, A, v, u, v', u', hd, he, rv, ru, hu => by
    have hd0 := hd
    have he0 := he
    unfold Rep at hd
    obtain ⟨a, xs, rfl, q, r⟩ := hd
    cases rv
    rw [deep] at hu
    obtain ⟨_, _, t0, _⟩ := I.list q
    cases e <;> unfold Rep at he
    · subst he; cases ru; exact EqAt.list_none t0.isList (by omega)
    · subst he; cases ru; exact EqAt.list_bool _ t0.isList (by omega)
    · subst he; obtain ⟨t, rfl⟩ := ru; exact EqAt.list_int _ _ t0.isList (by omega)
    · subst he; obtain ⟨t, rfl⟩ := ru; exact EqAt.list_str _ _ t0.isList (by omega)
    · obtain ⟨b, ys, rfl, q2, r2⟩ := he
      cases ru
      obtain ⟨_, _, t, _⟩ := I.tuple q2
      exact EqAt.list_tuple t0.isList t (by omega)
    · rename_i es
      obtain ⟨b, ys, rfl, q2, r2⟩ := he
      cases ru
      by_cases hab : a = b
      · subst hab
        rw [Rep.inj I _ _ _ hd0 he0, eqD_refl]
        exact EqAt.same _
      · rw [eqD]
        exact EqAt.of_refs hab (rc_lst I q r q2 r2 (by omega) fun us ws w1 w2 j v u e1 e2 => eqAtDs I ds es A.in1 xs ys us ws r r2 w1 w2 (by rw [in1_units]; omega) j v u e1 e2).1
theorem eqAtDs (I : Inv X pins σ H s) : ∀ (ds es : List D) (A : Around) (xs ys : List V) (us ws : List Value), Reps X.K H ds xs → Reps X.K H es ys → Vals xs us → Vals ys ws → A.units + deeps ds < cLine →
    ∀ (j : Nat) v u, us[j]? = some v → ws[j]? = some u → EqAt A s v u (pickEq ds es j)
  | [], es, A, xs, ys, us, ws, hd, he, rv, ru, hu, j, v, u, e1, e2 => by
    rw [hd.inv0] at rv; cases rv; simp at e1
  | d :: ds, [], A, xs, ys, us, ws, hd, he, rv, ru, hu, j, v, u, e1, e2 => by
    rw [he.inv0] at ru; cases ru; simp at e2
  | d :: ds, e :: es, A, xs, ys, us, ws, hd, he, rv, ru, hu, j, v, u, e1, e2 => by
    obtain ⟨x, xs, rfl, hx, hxs⟩ := hd.inv
    obtain ⟨y, ys, rfl, hy, hys⟩ := he.inv
    rw [deeps] at hu
    cases rv with
    | cons rv1 rv2 =>
      cases ru with
      | cons ru1 ru2 =>
        cases j with
        | zero =>
          simp at e1 e2
          subst e1 e2
          have p : pickEq (d :: ds) (e :: es) 0 = eqD d e := by simp [pickEq]
          rw [p]
          exact eqAtD I d e A x y _ _ hx hy rv1 ru1 (by omega)
        | succ j =>
          have p : pickEq (d :: ds) (e :: es) (j + 1) = pickEq ds es j := by simp [pickEq]
          rw [p]
          exact eqAtDs I ds es A xs ys _ _ hxs hys rv2 ru2 (by omega) j v u (by simpa using e1) (by simpa using e2)
end
theorem rcD (I : Inv X pins σ H s) (d e : D) {v u : V} {v' u' : Value} (hd : Rep X.K H d v) (he : Rep X.K H e u) (rv : RelV v v') (ru : RelV u u') (hu : A.units + deep d < cLine) : RcAt A s v' u' (eqD d e) ∧ RcNeAt A s v' u' (!eqD d e) := by
  cases d with
  | non =>
    unfold Rep at hd
    subst hd; cases rv
    cases e with
    | non =>
      unfold Rep at he
      subst he; cases ru
      exact ⟨RcAt.none_none , RcNeAt.none_none ⟩
    | bl b1 =>
      unfold Rep at he
      subst he; cases ru
      exact ⟨RcAt.none_bool _ , RcNeAt.none_bool _ ⟩
    | int i1 =>
      unfold Rep at he
      subst he; obtain ⟨t1, rfl⟩ := ru
      exact ⟨RcAt.none_int _ _ , RcNeAt.none_int _ _ ⟩
    | str x1 =>
      unfold Rep at he
      subst he; obtain ⟨t1, rfl⟩ := ru
      exact ⟨RcAt.none_str _ _ , RcNeAt.none_str _ _ ⟩
    | tup es =>
      unfold Rep at he
      obtain ⟨b, ys, rfl, q2, r2⟩ := he
      cases ru
      obtain ⟨_, _, t1, _⟩ := I.tuple q2
      exact ⟨RcAt.none_tuple t1 (by omega), RcNeAt.none_tuple t1 (by omega)⟩
    | lst es =>
      unfold Rep at he
      obtain ⟨b, ys, rfl, q2, r2⟩ := he
      cases ru
      obtain ⟨_, _, t1, _⟩ := I.list q2
      exact ⟨RcAt.none_list t1.isList (by omega), RcNeAt.none_list t1.isList (by omega)⟩
  | bl b0 =>
    unfold Rep at hd
    subst hd; cases rv
    cases e with
    | non =>
      unfold Rep at he
      subst he; cases ru
      exact ⟨RcAt.bool_none _ , RcNeAt.bool_none _ ⟩
    | bl b1 =>
      unfold Rep at he
      subst he; cases ru
      exact ⟨RcAt.bool_bool _ _ , RcNeAt.bool_bool _ _ ⟩
    | int i1 =>
      unfold Rep at he
      subst he; obtain ⟨t1, rfl⟩ := ru
      exact ⟨RcAt.bool_int _ _ _ , RcNeAt.bool_int _ _ _ ⟩
    | str x1 =>
      unfold Rep at he
      subst he; obtain ⟨t1, rfl⟩ := ru
      exact ⟨RcAt.bool_str _ _ _ , RcNeAt.bool_str _ _ _ ⟩
    | tup es =>
      unfold Rep at he
      obtain ⟨b, ys, rfl, q2, r2⟩ := he
      cases ru
      obtain ⟨_, _, t1, _⟩ := I.tuple q2
      exact ⟨RcAt.bool_tuple _ t1 (by omega), RcNeAt.bool_tuple _ t1 (by omega)⟩
    | lst es =>
      unfold Rep at he
      obtain ⟨b, ys, rfl, q2, r2⟩ := he
      cases ru
      obtain ⟨_, _, t1, _⟩ := I.list q2
      exact ⟨RcAt.bool_list _ t1.isList (by omega), RcNeAt.bool_list _ t1.isList (by omega)⟩
  | int i0 =>
    unfold Rep at hd
    subst hd; obtain ⟨t0, rfl⟩ := rv
    cases e with
    | non =>
      unfold Rep at he
      subst he; cases ru
      exact ⟨RcAt.int_none _ _ , RcNeAt.int_none _ _ ⟩
    | bl b1 =>
      unfold Rep at he
      subst he; cases ru
      exact ⟨RcAt.int_bool _ _ _ , RcNeAt.int_bool _ _ _ ⟩
    | int i1 =>
      unfold Rep at he
      subst he; obtain ⟨t1, rfl⟩ := ru
      exact ⟨RcAt.int_int _ _ _ _ , RcNeAt.int_int _ _ _ _ ⟩
    | str x1 =>
      unfold Rep at he
      subst he; obtain ⟨t1, rfl⟩ := ru
      exact ⟨RcAt.int_str _ _ _ _ , RcNeAt.int_str _ _ _ _ ⟩
    | tup es =>
      unfold Rep at he
      obtain ⟨b, ys, rfl, q2, r2⟩ := he
      cases ru
      obtain ⟨_, _, t1, _⟩ := I.tuple q2
      exact ⟨RcAt.int_tuple _ _ t1 (by omega), RcNeAt.int_tuple _ _ t1 (by omega)⟩
    | lst es =>
      unfold Rep at he
      obtain ⟨b, ys, rfl, q2, r2⟩ := he
      cases ru
      obtain ⟨_, _, t1, _⟩ := I.list q2
      exact ⟨RcAt.int_list _ _ t1.isList (by omega), RcNeAt.int_list _ _ t1.isList (by omega)⟩
  | str x0 =>
    unfold Rep at hd
    subst hd; obtain ⟨t0, rfl⟩ := rv
    cases e with
    | non =>
      unfold Rep at he
      subst he; cases ru
      exact ⟨RcAt.str_none _ _ , RcNeAt.str_none _ _ ⟩
    | bl b1 =>
      unfold Rep at he
      subst he; cases ru
      exact ⟨RcAt.str_bool _ _ _ , RcNeAt.str_bool _ _ _ ⟩
    | int i1 =>
      unfold Rep at he
      subst he; obtain ⟨t1, rfl⟩ := ru
      exact ⟨RcAt.str_int _ _ _ _ , RcNeAt.str_int _ _ _ _ ⟩
    | str x1 =>
      unfold Rep at he
      subst he; obtain ⟨t1, rfl⟩ := ru
      exact ⟨RcAt.str_str _ _ _ _ , RcNeAt.str_str _ _ _ _ ⟩
    | tup es =>
      unfold Rep at he
      obtain ⟨b, ys, rfl, q2, r2⟩ := he
      cases ru
      obtain ⟨_, _, t1, _⟩ := I.tuple q2
      exact ⟨RcAt.str_tuple _ _ t1 (by omega), RcNeAt.str_tuple _ _ t1 (by omega)⟩
    | lst es =>
      unfold Rep at he
      obtain ⟨b, ys, rfl, q2, r2⟩ := he
      cases ru
      obtain ⟨_, _, t1, _⟩ := I.list q2
      exact ⟨RcAt.str_list _ _ t1.isList (by omega), RcNeAt.str_list _ _ t1.isList (by omega)⟩
  | tup ds =>
    unfold Rep at hd
    obtain ⟨a, xs, rfl, q, r⟩ := hd
    cases rv
    rw [deep] at hu
    obtain ⟨_, _, t0, _⟩ := I.tuple q
    cases e with
    | non =>
      unfold Rep at he
      subst he; cases ru
      exact ⟨RcAt.tuple_none t0 (by omega), RcNeAt.tuple_none t0 (by omega)⟩
    | bl b1 =>
      unfold Rep at he
      subst he; cases ru
      exact ⟨RcAt.tuple_bool _ t0 (by omega), RcNeAt.tuple_bool _ t0 (by omega)⟩
    | int i1 =>
      unfold Rep at he
      subst he; obtain ⟨t1, rfl⟩ := ru
      exact ⟨RcAt.tuple_int _ _ t0 (by omega), RcNeAt.tuple_int _ _ t0 (by omega)⟩
    | str x1 =>
      unfold Rep at he
      subst he; obtain ⟨t1, rfl⟩ := ru
      exact ⟨RcAt.tuple_str _ _ t0 (by omega), RcNeAt.tuple_str _ _ t0 (by omega)⟩
    | tup es =>
      unfold Rep at he
      obtain ⟨b, ys, rfl, q2, r2⟩ := he
      cases ru
      obtain ⟨_, _, t1, _⟩ := I.tuple q2
      have z := rc_tup I q r q2 r2 (A := A) (by omega) fun us ws w1 w2 j v u e1 e2 => eqAtDs I ds es A.in1 xs ys us ws r r2 w1 w2 (by rw [in1_units]; omega) j v u e1 e2
      rw [eqD]; exact z
    | lst es =>
      unfold Rep at he
      obtain ⟨b, ys, rfl, q2, r2⟩ := he
      cases ru
      obtain ⟨_, _, t1, _⟩ := I.list q2
      exact ⟨RcAt.tuple_list t0 t1.isList (by omega), RcNeAt.tuple_list t0 t1.isList (by omega)⟩
  | lst ds =>
    unfold Rep at hd
    obtain ⟨a, xs, rfl, q, r⟩ := hd
    cases rv
    rw [deep] at hu
    obtain ⟨_, _, t0, _⟩ := I.list q
    cases e with
    | non =>
      unfold Rep at he
      subst he; cases ru
      exact ⟨RcAt.list_none t0.isList (by omega), RcNeAt.list_none t0.isList (by omega)⟩
    | bl b1 =>
      unfold Rep at he
      subst he; cases ru
      exact ⟨RcAt.list_bool _ t0.isList (by omega), RcNeAt.list_bool _ t0.isList (by omega)⟩
    | int i1 =>
      unfold Rep at he
      subst he; obtain ⟨t1, rfl⟩ := ru
      exact ⟨RcAt.list_int _ _ t0.isList (by omega), RcNeAt.list_int _ _ t0.isList (by omega)⟩
    | str x1 =>
      unfold Rep at he
      subst he; obtain ⟨t1, rfl⟩ := ru
      exact ⟨RcAt.list_str _ _ t0.isList (by omega), RcNeAt.list_str _ _ t0.isList (by omega)⟩
    | tup es =>
      unfold Rep at he
      obtain ⟨b, ys, rfl, q2, r2⟩ := he
      cases ru
      obtain ⟨_, _, t1, _⟩ := I.tuple q2
      exact ⟨RcAt.list_tuple t0.isList t1 (by omega), RcNeAt.list_tuple t0.isList t1 (by omega)⟩
    | lst es =>
      unfold Rep at he
      obtain ⟨b, ys, rfl, q2, r2⟩ := he
      cases ru
      obtain ⟨_, _, t1, _⟩ := I.list q2
      have z := rc_lst I q r q2 r2 (A := A) (by omega) fun us ws w1 w2 j v u e1 e2 => eqAtDs I ds es A.in1 xs ys us ws r r2 w1 w2 (by rw [in1_units]; omega) j v u e1 e2
      rw [eqD]; exact z
def rEqD (K : PySem.W.Frag) : R2 := fun x y H Q => ∃ d e, Rep K H d x ∧ Rep K H e y ∧ deep d ≤ 60 ∧ Q (.bl (eqD d e)) H
def rNeD (K : PySem.W.Frag) : R2 := fun x y H Q => ∃ d e, Rep K H d x ∧ Rep K H e y ∧ deep d ≤ 60 ∧ Q (.bl (!eqD d e)) H
theorem op_eqD (hu : X.A.units + 64 < cLine) : OpR X (compareOp .Eq) (rEqD X.K) := by
  intro pins s σ H x y v u Q I rx ry h
  obtain ⟨d, e, hd, he, hz, q⟩ := h
  exact (rcD (A := X.A) I d e hd he rx ry (by omega)).1 X.prog X.w X.xe _ ⟨.bl (eqD d e), H, I, rfl, q⟩
theorem op_neD (hu : X.A.units + 64 < cLine) : OpR X (compareOp .NotEq) (rNeD X.K) := by
  intro pins s σ H x y v u Q I rx ry h
  obtain ⟨d, e, hd, he, hz, q⟩ := h
  exact (rcD (A := X.A) I d e hd he rx ry (by omega)).2 X.prog X.w X.xe _ ⟨.bl (!eqD d e), H, I, rfl, q⟩
noncomputable def absD (K : PySem.W.Frag) (H : Hp) (u : Value) : D := by
  classical exact if h : ∃ d v, RelV v u ∧ Rep K H d v then h.choose else .non
theorem absD_eq {d : D} {v : V} {u : Value} (I : Inv X pins σ H s) (r : RelV v u) (h : Rep X.K H d v) : absD X.K H u = d := by
  have hx : ∃ d v, RelV v u ∧ Rep X.K H d v := ⟨d, v, r, h⟩
  unfold absD
  rw [dif_pos hx]
  obtain ⟨v2, r2, h2⟩ := hx.choose_spec
  have := r2.inj r
  subst this
  exact Rep.inj I _ _ _ h2 h
theorem any_vals {K : PySem.W.Frag} {H : Hp} {d : D} (f : Value → D) : ∀ {ds : List D} {xs : List V} {us : List Value}, Reps K H ds xs → Vals xs us → (∀ d v u, Rep K H d v → RelV v u → f u = d) → (us.any fun u => eqD (f u) d) = ds.any fun e => eqD e d
  | [], _, _, h, rv, _ => by rw [h.inv0] at rv; cases rv; rfl
  | e :: ds, _, _, h, rv, hf => by
    obtain ⟨v, r, rfl, q, t⟩ := h.inv
    cases rv with
    | cons r1 r2 => rw [List.any_cons, List.any_cons, hf _ _ _ q r1, any_vals f t r2 hf]
theorem mem_rep {K : PySem.W.Frag} {H : Hp} : ∀ {ds : List D} {xs : List V} {us : List Value}, Reps K H ds xs → Vals xs us → ∀ u ∈ us, ∃ d v, Rep K H d v ∧ RelV v u ∧ deep d ≤ deeps ds
  | [], _, _, h, rv, u, hu => by rw [h.inv0] at rv; cases rv; cases hu
  | e :: ds, _, _, h, rv, u, hu => by
    obtain ⟨v, r, rfl, q, t⟩ := h.inv
    cases rv with
    | cons r1 r2 =>
      rw [deeps]
      rcases List.mem_cons.mp hu with z | z
      · subst z; exact ⟨e, v, q, r1, by omega⟩
      · obtain ⟨d, w', a, b, c⟩ := mem_rep t r2 u z
        exact ⟨d, w', a, b, by omega⟩
def rInD (K : PySem.W.Frag) (neg : Bool) : R2 := fun x y H Q => ∃ d p xs ds, Rep K H d x ∧ y = .ref p ∧ SqL K H p xs ∧ Reps K H ds xs ∧ deeps ds ≤ 60 ∧ Q (.bl (if neg then !ds.any (fun e => eqD e d) else ds.any fun e => eqD e d)) H
theorem op_notInD (hu : X.A.units + 64 < cLine) : OpR X (compareOp .NotIn) (rInD X.K true) := by
  intro pins s σ H x y v u Q I rx ry h
  obtain ⟨d, p, xs, ds, hd, rfl, hq, hr, hz, q⟩ := h
  cases ry
  obtain ⟨its, rv, t, _⟩ := I.list hq
  refine notIn_listAt (fun u => eqD (absD X.K H u) d) t.isList (fun z hz' => ?_) ?_
  · obtain ⟨e, w', a, b, c⟩ := mem_rep hr rv z (by simpa using hz')
    have := eqAtD I e d X.A.in1 w' x z v a hd b rx (by rw [in1_units]; omega)
    rw [absD_eq I b a]
    exact this
  · refine ⟨.bl _, H, I, rfl, ?_⟩
    have e := any_vals (d := d) (absD X.K H) hr rv fun d v u a b => absD_eq I b a
    have e2 : (its.toArray.any fun u => eqD (absD X.K H u) d) = ds.any fun e => eqD e d := by rw [← e]; simp
    rw [e2]; exact q
end
end L3

/-! [e for x in xs], [e for x in xs if c]: the block runs in a context of its own; no exception leaves it. -/
namespace L3
open PySem PySem.Spec PyProof.Rows L2
def blk (X : Cx) (scope : Scope) (cl : List (Str × Addr)) (N' : List Str) (C : Addr) (s₀ : Shared) (H₀ : Hp) (ex : List Addr) (pn : List (Addr × Obj)) : Cx where
  prog := X.prog
  w := X.w
  K := X.K
  mg := X.mg
  base := X.base
  A := X.A
  N := N'
  s₀ := s₀
  H₀ := H₀
  env := compEnvC scope cl C X.env
  outer := X.stack
  stack := X.stack
  ex := ex
  fn := fun _ => false
  calm := X.calm
  pn := pn
  xe := fun _ _ => False
abbrev lobj (its : List Value) : Obj := { cls := .type "list", data := .seq its.toArray its.length }
section
variable {X : Cx} {pins : List (Addr × Obj)} {σ : L2.St} {H : Hp} {s : Shared}
def PF (X : Cx) (ifs : List Expr) (t : TT) : Prop := ∀ (pins : List (Addr × Obj)) (s : Shared) (σ : L2.St) (H : Hp) (Q : Bool → Hp → Prop), Inv X pins σ H s → t σ H Q →
  wpAny (model X.prog X.w) X.A (forIn ifs true fun c r => if r = true then do let ok ← isTrue c X.env (eval c X.env); pure (ForInStep.yield ok) else pure (ForInStep.yield r)) (TP X pins σ Q) X.xe s
def tTrue : TT := fun _ H Q => Q true H
theorem pf_nil : PF X [] tTrue := fun _ _ _ H _ I h => wpAny_tests_nil ⟨H, I, h⟩
theorem pf_one {c : Expr} {t : TT} (h : PT X c t) : PF X [c] t := fun pins s σ H Q I hq => wpAny_tests_one (h pins s σ H Q I hq)

theorem Inv.track {D : Addr} {ys : List V} {its : List Value} (I : Inv X pins σ H s) (hD : H D = none) (ho : s.heap.get? D = some (lobj its)) (hv : Vals ys its) (hz : ys.length ≤ sizeLine)
    (h1 : D ∈ X.ex ∨ X.s₀.heap.objs.size ≤ D) (h2 : D ≠ X.env.locals) (h3 : ∀ x c, X.env.cells.lookup x = some c → c ≠ D) (h4 : ∀ p ∈ X.pn ++ pins, p.1 ≠ D) : Inv X pins σ (upd H D (.lst ys)) s := by
  have old : ∀ b u, H b = some u → upd H D (.lst ys) b = some u := fun b u e => by rw [upd_ne (ne_of_none e hD)]; exact e
  refine I.step (g' := s.gens) (t' := s.toks) (d' := s.drawn) (h' := s.heap) (ch := [D]) (fun b hb => ?_) (fun b o _ _ _ e _ => e) (fun b o _ _ _ e _ => ⟨o.slots, e⟩) (fun b o hb _ n => ?_) (fun b o _ e => ⟨o, e⟩)
    (fun b xs e => old b _ e) (fun b o u e => old b _ e) (fun b ps e => ⟨#[], by rw [old b _ e]; simp⟩) (fun m hm => hm) (fun b u e => ?_) I.bare
  · have e : b = D := by simpa using hb
    subst e
    exact ⟨h1, h2, h3, h4⟩
  · rw [upd_ne (by simpa using hb)]; exact n
  · by_cases hb : b = D
    · subst hb
      rw [upd_same] at e; cases e
      exact ⟨hz, its, its.length, hv, ho⟩
    · rw [upd_ne hb] at e
      exact (I.hok b u e).stay (fun c v _ q => q) (fun c q => old c _ q) fun c xs q => old c _ q

def lend (js : List (Option Nat)) (σ : L2.St) : L2.St := js.map fun o => o.bind fun j => (σ[j]?).join
structure Blk (X : Cx) (scope : Scope) (cl : List (Str × Addr)) (N' : List Str) (js : List (Option Nat)) : Prop where
  clos : closureFor scope X.env = pure cl
  nocell : ∀ y ∈ scope.names, y.2 ≠ .cell
  kind : scope.kind = .function
  names : ∀ y ∈ scope.names, y.2 = .local → scope.names.lookup y.1 = some .local
  sub : ∀ y c, cl.lookup y = some c → X.env.cells.lookup y = some c
  has : ∀ y, ((relabel scope X.env).names.lookup y = some .cell ∨ (relabel scope X.env).names.lookup y = some .free) → ∃ c, cl.lookup y = some c
  len : js.length = N'.length
  lent : ∀ (i : Nat) y j, N'[i]? = some y → js[i]? = some (some j) → X.N[j]? = some y ∧ Vis X.env.scope y ∧ X.env.scope.names.lookup y ≠ some .local ∧ (relabel scope X.env).names.lookup y ≠ some .local

theorem blk_inv {scope : Scope} {cl : List (Str × Addr)} {N' : List Str} {js : List (Option Nat)} {fp : List Addr} {C : Addr} {h1 : Heap} {m : Str → Option Value} {tk : Nat} (B : Blk X scope cl N' js) (I : Inv X pins σ H s) (f : ∀ b ∈ fp, FpOk X pins H b)
    (fo : ∀ b ∈ fp, ∃ o, s.heap.get? b = some o) (old : ∀ b o, s.heap.get? b = some o → h1.get? b = some o) (hns : h1.Ns C m) (hC : s.heap.objs.size ≤ C) :
    Inv (blk X scope cl N' C s H fp (X.pn ++ pins)) [] (lend js σ) H { s with heap := h1, toks := tk } := by
  have ltC : ∀ b o, s.heap.get? b = some o → b ≠ C := fun b o e => Nat.ne_of_lt (Nat.lt_of_lt_of_le (Heap.lt_size e) hC)
  refine ⟨⟨I.ok.mod, B.kind, I.ok.glob, I.ok.blt, hC, fun y z c e1 e2 => I.ok.inj y z c (B.sub y c e1) (B.sub z c e2), fun y hy => B.has y hy, (fun y c e => nomatch e), I.ok.hd, I.ok.frames, .inl rfl, fun b hb => ?_, I.bs, ?_, fun b o e hb => ?_, fun b hb hs => ?_, I.stack, I.stkFree⟩,
    rfl, I.bare, Un.kept old, ⟨m, hns, fun i y v e1 e2 e3 => ?_⟩, fun y c e => ?_, I.hok.fresh hC, fun y c e => I.freeC y c (B.sub y c e), fun p hp => ?_, I.hok.kept old, ?_⟩
  · obtain ⟨o, e⟩ := fo b hb
    exact ⟨ltC b o e, fun y c q => (f b hb).2.2.2.2.1 y c (B.sub y c q)⟩
  · exact Nat.le_trans I.ok.bsz I.sz
  · rcases (f b hb).2.2.2.1 with z | z
    · exact I.ok.noex b o e z
    · exact absurd (Nat.lt_of_lt_of_le (Heap.lt_size (I.ok.bs b o e).1) z) (Nat.lt_irrefl _)
  · rcases List.mem_cons.mp (I.stkSub b hs) with z | z
    · exact (f b hb).2.1 z
    · exact (f b hb).2.2.1 z
  · have e2' : (lend js σ)[i]? = some (some v) := e2
    unfold lend at e2'
    rw [List.getElem?_map] at e2'
    cases ej : js[i]? with
    | none => rw [ej] at e2'; cases e2'
    | some o =>
      rw [ej] at e2'
      cases o with
      | none => cases e2'
      | some j =>
        obtain ⟨n1, n2, n3, n4⟩ := B.lent i y j e1 ej
        have es : σ[j]? = some (some v) := by
          cases q : σ[j]? with
          | none => rw [show (some (some j)).map _ = _ from rfl] at e2'; simp [q] at e2'
          | some z => simp [q] at e2'; rw [e2']
        obtain ⟨m0, hn0, hl0⟩ := I.loc
        obtain ⟨u, r, l⟩ := hl0 j y v n1 es n2
        refine ⟨u, r, ?_⟩
        rcases l with ⟨k, _⟩ | ⟨k, c, ec, z⟩
        · exact absurd k n3
        · have k' : (relabel scope X.env).names.lookup y = some .cell ∨ (relabel scope X.env).names.lookup y = some .free := by
            rcases e3 with q | q
            · exact absurd q n4
            · exact q
          obtain ⟨c', ec'⟩ := B.has y k'
          have := B.sub y c' ec'
          rw [ec] at this; cases this
          obtain ⟨oc, hoc, hd⟩ := z
          exact .inr ⟨k', c, ec', oc, old _ _ hoc, hd⟩
  · obtain ⟨v, oc, hoc, hd⟩ := I.cell y c (B.sub y c e)
    exact ⟨v, oc, old _ _ hoc, hd⟩
  · have hp' : p ∈ X.pn ++ pins := by simpa [blk] using hp
    obtain ⟨e, n, ne, nf, d⟩ := I.pin p hp'
    refine ⟨old _ _ e, n, ltC _ _ e, fun hs => ?_, d⟩
    rcases List.mem_cons.mp (I.stkSub p.1 hs) with z | z
    · exact ne z
    · exact nf z
  · show (lend js σ).length = N'.length
    unfold lend
    rw [List.length_map, B.len]

theorem codeAny_compLoop_any {prog : Program} {w : World} {A : Around} {R : Result → Shared → Prop} {s : Shared} {elt target iter : Expr} {ifs : List Expr} {scope : Scope} {pos : Pos} {it acc : Value} {env : Env} (I : Nat → Shared → Prop)
    (turn : ∀ n s, I n s → wpAny (model prog w) A (pyNext it) (fun r s₁ => match r with
      | none => R (.ok .next) s₁
      | some v => wpAny (model prog w) A (letOwnedTupleGo target it v) (fun _ s₁' => wpAny (model prog w) A (assign target env v) (fun _ s₂ =>
          wpAny (model prog w) A (forIn ifs true fun c r => if r = true then do let ok ← isTrue c env (eval c env); pure (ForInStep.yield ok) else pure (ForInStep.yield r)) (fun ok s₃ =>
            if ok = true then wpAny (model prog w) A (eval elt env) (fun x s₄ =>
              wpAny (model prog w) A (call (.builtin "list.append") [acc, x]) (fun _ s₅ => ∃ m, m < n ∧ I m s₅) (fun _ _ => False) s₄) (fun _ _ => False) s₃
            else ∃ m, m < n ∧ I m s₃) (fun _ _ => False) s₂) (fun _ _ => False) s₁') (fun _ _ => False) s₁) (fun _ _ => False) s)
    (n : Nat) (h : I n s) :
    codeAny (model prog w) A (.compLoop (.ListComp elt [⟨target, iter, ifs, 0⟩] scope pos) 0 it acc env) R s := by
  refine codeAny_loop rfl I (fun n s hI => ?_) n h
  show wpAny _ A ((compTurn (.ListComp elt [⟨target, iter, ifs, 0⟩] scope pos) 0 it acc env).onRaise (fun x => do noteFrame x env; theTreesLotGoes x)) _ _ s
  refine wpAny_noted ?_
  rw [compTurn_list]
  refine wpAny_bind (wpAny_standAt (wpAny_bind (wpAny_mono (turn n s hI) (fun r s₁ h₁ => ?_) fun _ _ f => f.elim)))
  cases r with
  | none => exact wpAny_pure h₁
  | some v =>
    refine wpAny_bind (wpAny_mono h₁ (fun _ s₁' h₁' => ?_) fun _ _ f => f.elim)
    refine wpAny_bind (wpAny_mono h₁' (fun _ s₂ h₂ => wpAny_bind (wpAny_mono h₂ (fun ok s₃ h₃ => ?_) fun _ _ f => f.elim)) fun _ _ f => f.elim)
    cases ok with
    | false => exact wpAny_pure ⟨rfl, h₃⟩
    | true =>
      exact wpAny_bind (wpAny_bind (wpAny_mono h₃ (fun x s₄ h₄ => wpAny_bind (wpAny_mono h₄ (fun _ s₅ h₅ => wpAny_pure (wpAny_pure ⟨rfl, h₅⟩)) fun _ _ f => f.elim)) fun _ _ f => f.elim))

def CompGo (J : It) (g : TG) (tf : TT) (te : TE) (Q : VK) (τ0 : L2.St) (H1 : Hp) : Prop := ∃ W : Nat → Nat → List V → L2.St → Hp → Prop, (∃ m, W 0 m [] τ0 H1) ∧ ∀ i m ys τ H, W i m ys τ H →
  (J.stop i H ∧ ∀ p, H p = none → Q (.ref p) (upd H p (.lst ys))) ∨ (J.go i H ∧ ∃ Nx : List V → L2.St → Hp → Prop, (∀ ys' τ' H', Nx ys' τ' H' → ∃ m', m' < m ∧ W (i + 1) m' ys' τ' H') ∧
    ∀ v H', J.yld i H v H' → g v τ H' fun τ2 H2 => tf τ2 H2 fun b H3 => if b = true then te τ2 H3 fun y H4 => ys.length < sizeLine ∧ Nx (ys ++ [y]) τ2 H4 else Nx ys τ2 H3)
def tComp (js : List (Option Nat)) (wi : TI) (g : TG) (tf : TT) (te : TE) : TE := fun σ H Q => wi σ H fun J H1 => CompGo J g tf te Q (lend js σ) H1
theorem comp_core {elt iter tg : Expr} {ifs : List Expr} {scope : Scope} {pos : Pos} {cl : List (Str × Addr)} {N' : List Str} {js : List (Option Nat)} {g : TG} {tf : TT} {te : TE} {RR : Value → Addr → Result → Shared → Prop} {Qv : VK} {E : Value → Shared → Prop} {it : Addr} {fp : List Addr} {tn : Nat → Heap → Prop} {J : It} {H2 : Hp} {s2 : Shared}
    (hc : X.calm = true) (B : Blk X scope cl N' js) (hg : ∀ C s₀ H₀ ex pn, PG (blk X scope cl N' C s₀ H₀ ex pn) tg g) (hf : ∀ C s₀ H₀ ex pn, PF (blk X scope cl N' C s₀ H₀ ex pn) ifs tf) (he : ∀ C s₀ H₀ ex pn, PE (blk X scope cl N' C s₀ H₀ ex pn) elt te)
    (I2 : Inv X pins σ H2 s2) (T : Turn X.prog X.w X.K tg J fp it tn) (st2 : tn 0 s2.heap) (f2 : ∀ b ∈ fp, FpOk X pins H2 b) (cg : CompGo J g tf te Qv (lend js σ) H2)
    (fin : ∀ (Dd Cc : Addr) (m : Str → Option Value) (s4 : Shared) (Hx : Hp), Inv X pins σ Hx s4 → Qv (.ref Dd) Hx → s4.heap.Ns Cc m → Hx Cc = none → Cc ≠ X.env.locals → X.s₀.heap.objs.size ≤ Cc → (∀ x c, X.env.cells.lookup x = some c → c ≠ Cc) → (∀ p ∈ X.pn ++ pins, p.1 ≠ Cc) →
      RR (.ref Dd) Cc (.ok .next) s4) :
    wpAny (model X.prog X.w) X.A (newList []) (fun acc s₃ => wpAny (model X.prog X.w) X.A (newFunctionEnv scope X.env.globals cl [] X.env.qual none .none (some X.env)) (fun cenv s₄ =>
      codeAny (model X.prog X.w) X.A (.compStart (.ListComp elt [⟨tg, iter, ifs, 0⟩] scope pos) 0 (.ref it) acc { cenv with scope := relabel scope X.env }) (RR acc cenv.locals) s₄) E s₃) E s2 := by
  obtain ⟨W, ⟨m0, w0⟩, turn⟩ := cg
  refine wpAny_newObj_type (wpAny_newFunctionEnv B.nocell (by intro y hy; simp at hy) (fun h₁ hns₁ hsb₁ => ?_) B.kind)
  dsimp only at hns₁ hsb₁ ⊢
  generalize hG : s2.heap.push { cls := .type "list", dict := none, data := .seq ([] : List Value).toArray } = G at hns₁ hsb₁ ⊢
  have hC : G.objs.size = s2.heap.objs.size + 1 := by rw [← hG, Heap.size_push]
  have hDC : s2.heap.objs.size ≠ G.objs.size := by rw [hC]; exact Nat.ne_of_lt (Nat.lt_succ_self _)
  have below : ∀ b, b < s2.heap.objs.size → b ≠ G.objs.size ∧ b ≠ s2.heap.objs.size := fun b hb => ⟨by rw [hC]; exact Nat.ne_of_lt (Nat.lt_succ_of_lt hb), Nat.ne_of_lt hb⟩
  have old : ∀ b o, s2.heap.get? b = some o → h₁.get? b = some o := fun b o e => hsb₁.extBut b o (below b (Heap.lt_size e)).1 (Heap.get?_push_of_some _ (hG ▸ Heap.get?_push_of_some _ e))
  have hacc : h₁.get? s2.heap.objs.size = some (lobj []) := hsb₁.extBut _ _ hDC (Heap.get?_push_of_some _ (hG ▸ Heap.get?_push_size _ rfl))
  have fo : ∀ b ∈ fp, ∃ o, s2.heap.get? b = some o := fun b hb => let ⟨o, e, _⟩ := T.obj 0 _ st2 b hb; ⟨o, e⟩
  have I4 := blk_inv (tk := s2.toks + ([] : List (Str × Value)).length) B I2 f2 fo old hns₁ (by rw [hC]; exact Nat.le_succ _)
  generalize hD : s2.heap.objs.size = Dd at *
  generalize hCC : G.objs.size = Cc at *
  have st4 : tn 0 h₁ := T.keep 0 _ _ st2 fun b _ o e => old b o e
  have fpne : ∀ b ∈ fp, b ≠ Dd := fun b hb => let ⟨o, e⟩ := fo b hb; by rw [← hD]; exact Nat.ne_of_lt (Heap.lt_size e)
  have hDfree : H2 Dd = none := I2.hok.fresh (by rw [hD]; exact Nat.le_refl _)
  have hDfs : Dd ∉ frs X.stack := fun hb => by
    rcases List.mem_cons.mp (I2.stkSub _ hb) with z | z
    · have := I2.lt; rw [← z, hD] at this; exact Nat.lt_irrefl _ this
    · exact I2.nofs (a := Dd) (by rw [hD]; exact Nat.le_refl _) z
  have hDcell : ∀ x c, X.env.cells.lookup x = some c → c ≠ Dd := fun x c e z => by
    obtain ⟨v, q⟩ := I2.cell x c e
    have := q.lt
    rw [z, ← hD] at this; exact Nat.lt_irrefl _ this
  have hDpin : ∀ p ∈ X.pn ++ pins, p.1 ≠ Dd := fun p hp z => by
    have := Heap.lt_size (I2.pin p hp).1
    rw [z, ← hD] at this; exact Nat.lt_irrefl _ this
  -- the block's context
  generalize hXb : blk X scope cl N' Cc s2 H2 fp (X.pn ++ pins) = Xb at I4
  have xP : Xb.prog = X.prog := by rw [← hXb]; rfl
  have xW : Xb.w = X.w := by rw [← hXb]; rfl
  have xK : Xb.K = X.K := by rw [← hXb]; rfl
  have xA : Xb.A = X.A := by rw [← hXb]; rfl
  have xC : Xb.calm = true := by rw [← hXb]; exact hc
  have xL : Xb.env.locals = Cc := by rw [← hXb]; rfl
  have xFs : Xb.fs = frs X.stack := by rw [← hXb]; rfl
  have xEx : Xb.ex = fp := by rw [← hXb]; rfl
  have xPn : Xb.pn = X.pn ++ pins := by rw [← hXb]; rfl
  have xS : Xb.s₀ = s2 := by rw [← hXb]; rfl
  have xH : Xb.H₀ = H2 := by rw [← hXb]; rfl
  have xCl : ∀ y c, Xb.env.cells.lookup y = some c → X.env.cells.lookup y = some c := by rw [← hXb]; exact B.sub
  have xE : Xb.env = compEnvC scope cl Cc X.env := by rw [← hXb]; rfl
  have xX : Xb.xe = fun _ _ => False := by rw [← hXb]; rfl
  have hg' : PG Xb tg g := by rw [← hXb]; exact hg _ _ _ _ _
  have hf' : PF Xb ifs tf := by rw [← hXb]; exact hf _ _ _ _ _
  have he' : PE Xb elt te := by rw [← hXb]; exact he _ _ _ _ _
  have fok : ∀ {H' : Hp} {o : Obj}, (∀ b ∈ fp, H' b = none) → ∀ b ∈ fp, FpOk Xb [(Dd, o)] H' b := fun {H' o} hn b hb => by
    obtain ⟨o', e'⟩ := fo b hb
    refine ⟨hn b hb, ?_, ?_, .inl (by rw [xEx]; exact hb), fun y c q => (f2 b hb).2.2.2.2.1 y c (xCl y c q), fun p hp => ?_⟩
    · rw [xL]; exact (below b (by have := Heap.lt_size e'; rw [hD] at this; exact this)).1
    · rw [xFs]
      intro hs
      rcases List.mem_cons.mp (I2.stkSub b hs) with z | z
      · exact (f2 b hb).2.1 z
      · exact (f2 b hb).2.2.1 z
    · rw [xPn] at hp
      rcases List.mem_append.mp hp with z | z
      · exact (f2 b hb).2.2.2.2.2 p z
      · rw [List.mem_singleton.mp z]; exact (fpne b hb).symm
  have hDC' : Dd ≠ Cc := by rw [← hD, ← hCC]; rw [← hCC, ← hD] at hDC; exact hDC
  have loop : codeAny (model X.prog X.w) X.A (.compLoop (.ListComp elt [⟨tg, iter, ifs, 0⟩] scope pos) 0 (.ref it) (.ref Dd) (compEnvC scope cl Cc X.env)) (RR (.ref Dd) Cc)
      { s2 with heap := h₁, toks := s2.toks + ([] : List (Str × Value)).length } := by
    refine codeAny_compLoop_any (fun n s' => ∃ i ys τ H' its, Inv Xb [(Dd, lobj its)] τ H' s' ∧ tn i s'.heap ∧ (∀ b ∈ fp, H' b = none) ∧ Vals ys its ∧ ys.length ≤ sizeLine ∧ W i n ys τ H') ?_ m0
      ⟨0, [], _, H2, [], I4.pins_of (fun p hp => ?_), st4, fun b hb => (f2 b hb).1, .nil, Nat.zero_le _, w0⟩
    · rintro n s3 ⟨i, ys, τ, H3, its, I3, st3, fr3, hv, hz, w3⟩
      have pD := I3.pin (Dd, lobj its) (List.mem_append_right _ (List.mem_singleton.mpr rfl))
      rcases turn i n ys τ H3 w3 with ⟨stop, qn⟩ | ⟨go, Nx, hN, step⟩
      · have hd := T.done Xb xP xW xK xC i [(Dd, lobj its)] s3 τ H3 (fun _ _ => False) I3 (fok fr3) st3 stop
        rw [xA] at hd
        refine thn hd fun r s4 ⟨hr, I5⟩ => ?_
        subst hr
        obtain ⟨m, hn, _⟩ := id I5.loc
        rw [xL] at hn
        have pD5 := I5.pin (Dd, lobj its) (List.mem_append_right _ (List.mem_singleton.mpr rfl))
        have ub := I5.base
        rw [xFs, xEx, xS, xH] at ub
        have hfC : H3 Cc = none := by have := I5.free; rw [xL] at this; exact this
        have ok5 : HOk X.prog X.w H3 s4.heap := by have := I5.hok; rw [xP, xW] at this; exact this
        have IX : Inv X pins σ H3 s4 := I2.call' (s' := s4) (by rw [I5.os, xS]) ub ok5 I5.bare fun b hb => ⟨(f2 b hb).2.2.2.1, (f2 b hb).2.1, (f2 b hb).2.2.2.2.1, (f2 b hb).2.2.2.2.2⟩
        have hlo : X.s₀.heap.objs.size ≤ Dd := by rw [← hD]; exact I2.sz
        have hloL : Dd ≠ X.env.locals := fun z => by have := I2.lt; rw [← z, hD] at this; exact Nat.lt_irrefl _ this
        have hCD : Dd ≤ Cc := by omega
        refine fin Dd Cc m s4 (upd H3 Dd (.lst ys)) (L3.Inv.track IX pD5.2.1 pD5.1 hv hz (.inr hlo) hloL hDcell hDpin) (qn Dd pD5.2.1) hn (by rw [upd_ne hDC'.symm]; exact hfC) ?_ (Nat.le_trans hlo hCD) ?_ ?_
        · intro z; have := I2.lt; rw [← z, hD] at this; exact Nat.lt_irrefl _ (Nat.lt_of_lt_of_le this hCD)
        · intro x c e z
          obtain ⟨v, q⟩ := I2.cell x c e
          have := q.lt
          rw [z, hD] at this; exact Nat.lt_irrefl _ (Nat.lt_of_lt_of_le this hCD)
        · intro p hp z
          have := Heap.lt_size (I2.pin p hp).1
          rw [z, hD] at this; exact Nat.lt_irrefl _ (Nat.lt_of_lt_of_le this hCD)
      · have hit := T.item Xb xP xW xK xC i [(Dd, lobj its)] s3 τ H3 (fun _ _ => False) I3 (fok fr3) st3 go
        rw [xA] at hit
        refine thn hit fun r s4 ⟨u, hr, h4⟩ => ?_
        subst hr
        refine thn h4 fun _ s5 ⟨x, H5, I5, r5, y5, st5, fr5⟩ => ?_
        have I5' := I5.pinned (fok fr5) (T.obj _ _ st5)
        have ga := hg' _ s5 τ H5 x u _ I5' r5 (step x H5 y5)
        rw [xP, xW, xA, xE, xX] at ga
        refine thn ga fun _ s6 ⟨τ6, H6, I6, q6⟩ => ?_
        have fa := hf' _ s6 τ6 H6 _ I6 q6
        rw [xP, xW, xA, xE, xX] at fa
        refine thn fa fun ok s7 ⟨H7, I7, q7⟩ => ?_
        have back : ∀ {τ8 : L2.St} {H8 : Hp} {s8 : Shared}, Inv Xb ([(Dd, lobj its)] ++ pinsAt fp s5.heap) τ8 H8 s8 → tn (i + 1) s8.heap ∧ (∀ b ∈ fp, H8 b = none) := fun {τ8 H8 s8} I8 =>
          ⟨T.keep _ _ _ st5 fun b hb o e => (I8.pin (b, o) (List.mem_append_right _ (List.mem_append_right _ (mem_pinsAt hb e)))).1, fun b hb => by
            obtain ⟨o, e, d⟩ := T.obj _ _ st5 b hb
            exact (I8.pin (b, o) (List.mem_append_right _ (List.mem_append_right _ (mem_pinsAt hb e)))).2.1⟩
        cases ok with
        | false =>
          rw [if_neg (by simp)] at q7 ⊢
          obtain ⟨m', hm, w7⟩ := hN _ _ _ q7
          obtain ⟨b1, b2⟩ := back I7
          exact ⟨m', hm, i + 1, ys, τ6, H7, its, I7.unpinned, b1, b2, hv, hz, w7⟩
        | true =>
          rw [if_pos rfl] at q7 ⊢
          have ea := he' _ s7 τ6 H7 _ I7 q7
          rw [xP, xW, xA, xE, xX] at ea
          refine thn ea fun yv s8 ⟨y, H8, I8, r8, hlt, n8⟩ => ?_
          have pD8 := I8.pin (Dd, lobj its) (List.mem_append_right _ (List.mem_append_left _ (List.mem_singleton.mpr rfl)))
          have hil : its.length = ys.length := hv.length.symm
          refine append_at (hsz := by rw [List.size_toArray]; omega) pD8.1 fun h' hs' ho' => ?_
          obtain ⟨m', hm, w8⟩ := hN _ _ _ n8
          obtain ⟨b1, b2⟩ := back I8
          have J1 : Inv Xb [] τ6 H8 s8 := I8.pins_of (fun p hp => nomatch hp)
          have J2 : Inv Xb [] τ6 H8 { s8 with heap := h' } := J1.turned (t' := s8.toks) (it := Dd) (fun b o hb e => (hs'.2 b hb).trans e) pD8.2.1 pD8.2.2.1 (.inr (by rw [xS, hD]; exact Nat.le_refl _)) (fun y c q => hDcell y c (xCl y c q)) fun p hp => by
            rw [xPn, List.append_nil] at hp
            exact hDpin p hp
          refine ⟨m', hm, i + 1, ys ++ [y], τ6, H8, its ++ [yv], J2.pins_of fun p hp => ?_, T.keep _ _ _ b1 fun b hb o e => (hs'.2 b (fpne b hb)).trans e, b2, hv.append (.cons r8 .nil), by rw [List.length_append, List.length_singleton]; omega, w8⟩
          rw [List.mem_singleton.mp hp]
          refine ⟨?_, pD8.2.1, pD8.2.2.1, pD8.2.2.2.1, fun v z => nomatch z⟩
          show h'.get? Dd = some (lobj (its ++ [yv]))
          rw [ho']
          show some ({ cls := .type "list", data := .seq (its.toArray.push yv) (its.length + 1) } : Obj) = some { cls := .type "list", data := .seq (its ++ [yv]).toArray (its ++ [yv]).length }
          rw [List.length_append, List.length_singleton, List.push_toArray]
    · rw [List.mem_singleton.mp hp]
      refine ⟨hacc, hDfree, ?_, ?_, fun v z => nomatch z⟩
      · rw [xL]; rw [← hCC, ← hD]; rw [← hCC, ← hD] at hDC; exact hDC
      · rw [xFs]; exact hDfs
  exact codeAny_compStart_list loop (T.self X.A 0 _ _ _ st4 loop)

theorem pe_comp {elt iter tg : Expr} {ifs : List Expr} {scope : Scope} {pos : Pos} {cl : List (Str × Addr)} {N' : List Str} {js : List (Option Nat)} {wi : TI} {g : TG} {tf : TT} {te : TE} (hc : X.calm = true) (B : Blk X scope cl N' js) (hi : PI X tg iter wi)
    (hg : ∀ C s₀ H₀ ex pn, PG (blk X scope cl N' C s₀ H₀ ex pn) tg g) (hf : ∀ C s₀ H₀ ex pn, PF (blk X scope cl N' C s₀ H₀ ex pn) ifs tf) (he : ∀ C s₀ H₀ ex pn, PE (blk X scope cl N' C s₀ H₀ ex pn) elt te)
    (hs : ∀ x, foldedSetIterable iter X.env x = pure x := by intro _; rfl) : PE X (.ListComp elt [⟨tg, iter, ifs, 0⟩] scope pos) (tComp js wi g tf te) := by
  intro pins s σ H Q I h
  rw [eval_ListComp]
  refine wpAny_comprehension_free (use := none) rfl hs B.clos B.kind B.names (thn (hi pins s σ H _ I h) fun xv s1 h1 => thn h1 fun itv s2 h2 => ?_)
  obtain ⟨it, fp, tn, J, H2, e, I2, T, st2, f2, cg⟩ := h2
  subst e
  refine comp_core (RR := fun acc C => compPost (model X.prog X.w) X.A X.xe none (EP X pins σ Q) acc C) hc B hg hf he I2 T st2 f2 cg ?_
  intro Dd Cc m s4 Hx IX q hn hC cL cS cC cP
  refine ⟨m, hn, fun h' hs' => ⟨.ref Dd, Hx, ?_, rfl, q⟩⟩
  exact IX.turned (t' := s4.toks) (it := Cc) (fun b o hb e => (hs'.2 b hb).trans e) hC cL (.inr cS) cC cP
theorem ps_compset {i : Nat} {y : Str} {elt iter tg : Expr} {ifs : List Expr} {scope : Scope} {pos spos py : Pos} {cl : List (Str × Addr)} {N' : List Str} {js : List (Option Nat)} {wi : TI} {g : TG} {tf : TT} {te : TE} (hN : X.N.Nodup) (hy : X.N[i]? = some y) (hx : Loc X.env.scope y)
    (hsw : swapsWith (.ListComp elt [⟨tg, iter, ifs, 0⟩] scope pos) (some (.Name y py)) spos.line X.env = pure true) (hc : X.calm = true) (B : Blk X scope cl N' js) (hi : PI X tg iter wi)
    (hg : ∀ C s₀ H₀ ex pn, PG (blk X scope cl N' C s₀ H₀ ex pn) tg g) (hf : ∀ C s₀ H₀ ex pn, PF (blk X scope cl N' C s₀ H₀ ex pn) ifs tf) (he : ∀ C s₀ H₀ ex pn, PE (blk X scope cl N' C s₀ H₀ ex pn) elt te)
    (hs : ∀ x, foldedSetIterable iter X.env x = pure x := by intro _; rfl) (hfn : X.fn y = true ∨ X.env.scope.names.lookup y = some .local := by first | exact .inl rfl | exact .inr rfl | assumption) :
    PS X (.Assign [.Name y py] (.ListComp elt [⟨tg, iter, ifs, 0⟩] scope pos) spos) (tAsg (tComp js wi g tf te) (gName i)) := by
  intro pins s σ H D I h
  rw [exec_Assign_Name_used _ _ _ _ hsw]
  refine wpAny_bind (wpAny_standAt (wpAny_bind ?_))
  show wpAny _ X.A (do let _ ← comprehension (.ListComp elt [⟨tg, iter, ifs, 0⟩] scope pos) scope X.env _ (newList []) false (eval iter X.env) (some (assign (.Name y py) X.env))) _ _ s
  refine wpAny_bind (wpAny_mono (wpAny_comprehension_free (use := some (assign (.Name y py) X.env)) (Q := fun _ s' => SP X pins D .next s') rfl hs B.clos B.kind B.names
    (thn (hi pins s σ H _ I h) fun xv s1 h1 => thn h1 fun itv s2 h2 => ?_)) (fun _ s' hq => wpAny_pure (wpAny_pure hq)) fun _ _ e => e)
  obtain ⟨it, fp, tn, J, H2, e, I2, T, st2, f2, cg⟩ := h2
  subst e
  refine comp_core (RR := fun acc C => compPost (model X.prog X.w) X.A X.xe (some (assign (.Name y py) X.env)) (fun _ s' => SP X pins D .next s') acc C) hc B hg hf he I2 T st2 f2 cg ?_
  intro Dd Cc m s4 Hx IX q hn hC cL cS cC cP
  show wpAny _ X.A (assign (.Name y py) X.env (.ref Dd)) _ _ _
  refine wpAny_assign_Name (store_ok2 IX hN hy hx (v := .ref Dd) rfl (fun s5 I5 ⟨b, hb, hb'⟩ => ?_) hfn)
  have hCb : Cc ≠ b := fun z => by
    rcases hb' with w | w
    · exact cL (z.trans w)
    · exact cC y b w z.symm
  refine ⟨m, hn.sameBut hb hCb, fun h' hs' => ⟨_, Hx, I5.turned (t' := s5.toks) (it := Cc) (fun b o hb e => (hs'.2 b hb).trans e) hC cL (.inr cS) cC cP, q⟩⟩
end
/-! ### a block from checks -/
def capt (env : Env) : List (Str × NameKind) → List (Str × Addr) → List (Str × Addr)
  | [], acc => acc
  | (n, k) :: r, acc => capt env r (if k == .free then (match env.cells.lookup n with | some c => (n, c) :: acc | none => acc) else acc)
theorem lookup_cons' {n y : Str} {c : Addr} {acc : List (Str × Addr)} : ((n, c) :: acc).lookup y = if y == n then some c else acc.lookup y := by
  rw [List.lookup_cons]; cases y == n <;> rfl
theorem capt_sub {env : Env} : ∀ (names : List (Str × NameKind)) (acc : List (Str × Addr)), (∀ y c, acc.lookup y = some c → env.cells.lookup y = some c) → ∀ y c, (capt env names acc).lookup y = some c → env.cells.lookup y = some c
  | [], acc, h, y, c, e => h y c e
  | (n, k) :: r, acc, h, y, c, e => by
    unfold capt at e
    refine capt_sub r _ (fun y c q => ?_) y c e
    split at q
    · split at q
      · rename_i c' hc
        rw [lookup_cons'] at q
        split at q
        · rename_i hy
          cases q
          rw [eq_of_beq hy]; exact hc
        · exact h y c q
      · exact h y c q
    · exact h y c q
theorem capt_keep {env : Env} {y : Str} : ∀ (names : List (Str × NameKind)) (acc : List (Str × Addr)), (∃ c, acc.lookup y = some c) → ∃ c, (capt env names acc).lookup y = some c
  | [], acc, h => h
  | (n, k) :: r, acc, h => by
    unfold capt
    refine capt_keep r _ ?_
    split
    · split
      · rw [lookup_cons']
        split
        · exact ⟨_, rfl⟩
        · exact h
      · exact h
    · exact h
theorem capt_has {env : Env} {y : Str} (hy : (env.cells.lookup y).isSome = true) : ∀ (names : List (Str × NameKind)) (acc : List (Str × Addr)), (y, NameKind.free) ∈ names → ∃ c, (capt env names acc).lookup y = some c
  | (n, k) :: r, acc, h => by
    unfold capt
    rcases List.mem_cons.mp h with z | z
    · cases z
      refine capt_keep r _ ?_
      obtain ⟨c, hc⟩ := Option.isSome_iff_exists.mp hy
      rw [if_pos (by rfl), hc]
      exact ⟨c, by rw [lookup_cons', if_pos (beq_self_eq_true y)]⟩
    · exact capt_has hy r _ z
theorem relabel_free {scope : Scope} {env : Env} {y : Str} (h0 : ∀ z ∈ scope.names, z.2 ≠ .cell) (h : (relabel scope env).names.lookup y = some .cell ∨ (relabel scope env).names.lookup y = some .free) : (y, NameKind.free) ∈ scope.names := by
  have mem : ∃ k, (k = NameKind.cell ∨ k = NameKind.free) ∧ (y, k) ∈ (relabel scope env).names := by
    rcases h with h | h
    · exact ⟨_, .inl rfl, PySem.mem_of_lookup h⟩
    · exact ⟨_, .inr rfl, PySem.mem_of_lookup h⟩
  obtain ⟨k, hk, hm⟩ := mem
  unfold relabel at hm
  obtain ⟨⟨n, k'⟩, hm', e⟩ := List.mem_map.mp hm
  simp only at e
  split at e
  · rename_i hc
    cases e
    have : k' = .free := by
      simp only [Bool.and_eq_true, beq_iff_eq] at hc
      exact hc.1.1
    rw [← this]; exact hm'
  · cases e
    rcases hk with rfl | rfl
    · exact absurd rfl (h0 _ hm')
    · exact hm'
def chkFree (scope : Scope) (env : Env) : Bool := scope.names.all fun y => y.2 != .free || (env.cells.lookup y.1).isSome
def chkLent (X : Cx) (scope : Scope) : List Str → List (Option Nat) → Bool
  | [], [] => true
  | y :: N, o :: js => (match o with
    | none => true
    | some j => X.N[j]? == some y && (X.env.scope.names.lookup y == some .cell || X.env.scope.names.lookup y == some .free) && (relabel scope X.env).names.lookup y != some .local) && chkLent X scope N js
  | _, _ => false
theorem chkLent_at {X : Cx} {scope : Scope} : ∀ {N : List Str} {js : List (Option Nat)}, chkLent X scope N js = true → js.length = N.length ∧ ∀ (i : Nat) y j, N[i]? = some y → js[i]? = some (some j) → X.N[j]? = some y ∧ Vis X.env.scope y ∧ X.env.scope.names.lookup y ≠ some .local ∧ (relabel scope X.env).names.lookup y ≠ some .local
  | [], [], _ => ⟨rfl, fun i y j h => by simp at h⟩
  | [], _ :: _, h => by simp [chkLent] at h
  | _ :: _, [], h => by simp [chkLent] at h
  | z :: N, o :: js, h => by
    unfold chkLent at h
    rw [Bool.and_eq_true] at h
    obtain ⟨l, t⟩ := chkLent_at h.2
    refine ⟨by rw [List.length_cons, List.length_cons, l], fun i y j h1 h2 => ?_⟩
    cases i with
    | zero =>
      simp at h1 h2
      subst h1 h2
      have h' := h.1
      simp only [Bool.and_eq_true, Bool.or_eq_true, beq_iff_eq, bne_iff_ne] at h'
      refine ⟨h'.1.1, ?_, ?_, h'.2⟩
      · rcases h'.1.2 with q | q
        · exact .inr (.inl q)
        · exact .inr (.inr q)
      · rcases h'.1.2 with q | q <;> rw [q] <;> decide
    | succ i => exact t i y j (by simpa using h1) (by simpa using h2)
theorem blk_mk {X : Cx} {scope : Scope} {N' : List Str} {js : List (Option Nat)} (clos : closureFor scope X.env = pure (capt X.env scope.names [])) (nocell : ∀ y ∈ scope.names, y.2 ≠ .cell) (kind : scope.kind = .function)
    (names : ∀ y ∈ scope.names, y.2 = .local → scope.names.lookup y.1 = some .local) (free : chkFree scope X.env = true) (lent : chkLent X scope N' js = true) : Blk X scope (capt X.env scope.names []) N' js where
  clos := clos
  nocell := nocell
  kind := kind
  names := names
  sub := capt_sub _ _ fun y c e => nomatch e
  has := fun y h => by
    have hm := relabel_free nocell h
    have hf := List.all_eq_true.mp free _ hm
    exact capt_has (by simpa using hf) _ _ hm
  len := (chkLent_at lent).1
  lent := (chkLent_at lent).2
theorem comp_list {K : PySem.W.Frag} {a : Addr} {xs : List V} {g : TG} {tf : TT} {te : TE} {τ : L2.St} {H : Hp} {Q : VK} (Pv : Nat → List V → L2.St → Hp → Prop) (h0 : Pv 0 [] τ H) (hl : ∀ i ys τ H, Pv i ys τ H → SqL K H a xs)
    (hs : ∀ i x ys τ H, xs[i]? = some x → Pv i ys τ H → g x τ H fun τ2 H2 => tf τ2 H2 fun b H3 => if b = true then te τ2 H3 fun y H4 => ys.length < sizeLine ∧ Pv (i + 1) (ys ++ [y]) τ2 H4 else Pv (i + 1) ys τ2 H3)
    (hd : ∀ ys τ H, Pv xs.length ys τ H → ∀ p, H p = none → Q (.ref p) (upd H p (.lst ys))) :
    CompGo (Itl K a) g tf te Q τ H := by
  refine ⟨fun i m ys τ H => m = xs.length - i ∧ i ≤ xs.length ∧ Pv i ys τ H, ⟨xs.length, by simp, Nat.zero_le _, h0⟩, ?_⟩
  rintro i m ys τ H ⟨rfl, hi, p⟩
  have q := hl i ys τ H p
  by_cases hlt : i < xs.length
  · refine .inr ⟨⟨xs, xs[i], q, by simp [hlt]⟩, Pv (i + 1), fun ys' τ' H' p' => ⟨xs.length - (i + 1), by omega, rfl, hlt, p'⟩, fun x H' y => ?_⟩
    obtain ⟨e, y⟩ := y
    subst e
    exact hs i x ys τ _ (y xs q) p
  · have e : i = xs.length := by omega
    subst e
    exact .inl ⟨⟨xs, q, Nat.le_refl _⟩, hd ys τ H p⟩
theorem comp_range {lo : Int} {n : Nat} {g : TG} {tf : TT} {te : TE} {τ : L2.St} {H : Hp} {Q : VK} (Pv : Nat → List V → L2.St → Hp → Prop) (h0 : Pv 0 [] τ H)
    (hs : ∀ i ys τ H, i < n → Pv i ys τ H → g (.int (lo + i)) τ H fun τ2 H2 => tf τ2 H2 fun b H3 => if b = true then te τ2 H3 fun y H4 => ys.length < sizeLine ∧ Pv (i + 1) (ys ++ [y]) τ2 H4 else Pv (i + 1) ys τ2 H3)
    (hd : ∀ ys τ H, Pv n ys τ H → ∀ p, H p = none → Q (.ref p) (upd H p (.lst ys))) :
    CompGo (Itr lo n) g tf te Q τ H := by
  refine ⟨fun i m ys τ H => m = n - i ∧ i ≤ n ∧ Pv i ys τ H, ⟨n, by simp, Nat.zero_le _, h0⟩, ?_⟩
  rintro i m ys τ H ⟨rfl, hi, p⟩
  by_cases hlt : i < n
  · refine .inr ⟨hlt, Pv (i + 1), fun ys' τ' H' p' => ⟨n - (i + 1), by omega, rfl, hlt, p'⟩, fun x H' y => ?_⟩
    obtain ⟨e, y⟩ := y
    subst e y
    exact hs i ys τ _ hlt p
  · have e : i = n := by omega
    subst e
    exact .inl ⟨Nat.le_refl _, hd ys τ H p⟩
end L3

/-! min and max of a list of texts. -/
namespace L3
open PySem PySem.Spec PyProof.Rows L2
section
variable {prog : Program} {w : World} {A : Around} {E : Value → Shared → Prop} {s : Shared} {l : Addr} {xs : Array Value}
end
section
variable {X : Cx}
theorem strsAre_of : ∀ {xs : List Str} {us : List Value}, Vals (xs.map V.str) us → StrsAre us xs
  | [], _, r => by cases r; exact .nil
  | x :: xs, _, r => by
    cases r with
    | cons r1 r2 =>
      obtain ⟨t, rfl⟩ := r1
      exact .cons x t (strsAre_of r2)
def rJoin (K : PySem.W.Frag) : V → List V → Hp → VK → Prop := fun x vs H Q => ∃ z p ys, x = .str z ∧ vs = [.ref p] ∧ SqL K H p (ys.map V.str) ∧ (ys.map (·.length)).sum + ys.length * z.length ≤ 16777216 ∧ Q (.str (Txt.join z ys)) H
theorem mt_join : MtR X "str.join" (rJoin X.K) := by
  intro pins s σ H x vs v us Q I rx rv h
  obtain ⟨z, p, ys, rfl, rfl, hq, hz, q⟩ := h
  obtain ⟨t, rfl⟩ := rx
  obtain ⟨u, rfl, ru⟩ := vals1 rv
  cases ru
  obtain ⟨its, ri, pl, _⟩ := I.list hq
  exact join_list pl.isList (by simpa using strsAre_of ri) hz fun t' k => ⟨.str (Txt.join z ys), H, I.tok _, ⟨_, rfl⟩, q⟩
end
end L3

/-! xs[::-1] of a list. -/
namespace L3
open PySem PySem.Spec PyProof.Rows L2
section
variable {X : Cx} {e st : Expr} {te ts : TE} {pos p2 : Pos}
end
end L3

/-! The table of a set: where a hash is looked for, and that the first free place is found. -/
namespace ST
open PySem PySem.SetTable
def it : Nat → Nat → Nat
  | 0, x => x
  | n + 1, x => it n (5 * x + 1)
/-! ### the places that are looked at -/
def adv (mask : Nat) (p : Probe) : Probe :=
  if p.more > 0 then { p with j := p.j + 1, more := p.more - 1 } else
  { p with j := (leap mask p.i p.perturb).1, more := runEnd mask (leap mask p.i p.perturb).1 - (leap mask p.i p.perturb).1, i := (leap mask p.i p.perturb).1, perturb := (leap mask p.i p.perturb).2 }
def blockAt (mask i perturb : Nat) : Probe := { j := i, more := runEnd mask i - i, i, perturb, dummy := none }
def st (mask : Nat) (h : Int) : Probe := blockAt mask (bits h % (mask + 1)) (bits h)
def itr (mask : Nat) : Nat → Probe → Probe
  | 0, p => p
  | n + 1, p => itr mask n (adv mask p)
def pos (mask : Nat) (h : Int) (n : Nat) : Nat := (itr mask n (st mask h)).j
def bk (mask : Nat) : Nat → Nat × Nat → Nat × Nat
  | 0, x => x
  | m + 1, x => bk mask m (leap mask x.1 x.2)
end ST

namespace ST
open PySem PySem.SetTable
/-! ### one more -/
end ST

namespace ST
open PySem PySem.SetTable
/-! ### all laid anew -/
end ST

namespace ST
open PySem PySem.SetTable
end ST

/-! A set of tuples: what an addition does. -/
namespace PySem
section
variable {prog : Program} {w : World} {K : Type} [DecidableEq K] (knd : KeyKind prog w K)
variable {knd} {A : Around} {E : Value → Shared → Prop} {s : Shared}
end
end PySem

namespace PySem
section
variable {prog : Program} {w : World} {K : Type} [DecidableEq K] {knd : KeyKind prog w K} {A : Around} {E : Value → Shared → Prop} {s : Shared}
open ST in
end
end PySem

namespace PySem
section
variable {prog : Program} {w : World} {K : Type} [DecidableEq K] {knd : KeyKind prog w K} {A : Around} {E : Value → Shared → Prop} {s : Shared}
open ST in
end
end PySem

/-! set(xs): the new set, filled one by one. -/
namespace PySem
section
variable {prog : Program} {w : World} {A : Around} {E : Value → Shared → Prop} {s : Shared}
end
end PySem

namespace PySem
section
variable {prog : Program} {w : World} {B : Around} {E : Value → Shared → Prop} {s : Shared}
end
end PySem

namespace L3
open PySem PySem.Spec PyProof.Rows L2
def ndist {κ : Type} [DecidableEq κ] : List κ → Nat
  | [] => 0
  | x :: xs => if x ∈ xs then ndist xs else ndist xs + 1
section
variable {X : Cx}
end
end L3

namespace L3
open PySem PySem.Spec PyProof.Rows L2
section
variable {X : Cx}
end
end L3

/-! Marks, steps, scribes in the heap; what stays while lists change. -/
namespace L3
open PySem PySem.Spec PyProof.Rows L2
abbrev Mk := Int × Str
abbrev Stp := Int × Str × Str × Int
def Grow (H H' : Hp) : Prop := ∀ b o, H b = some o → (∀ xs, o ≠ .lst xs) → H' b = some o
theorem Same.grow {H H' : Hp} (g : Same H H') : Grow H H' := fun b o h _ => g b o h
theorem grow_upd {H : Hp} {p : Addr} {xs : List V} (h : H p = some (.lst xs)) (o : HO) : Grow H (upd H p o) := fun b u q n => by
  rw [upd_ne]
  · exact q
  · rintro rfl; rw [h] at q; cases q; exact n xs rfl
theorem grow_new {H : Hp} {p : Addr} (h : H p = none) (o : HO) : Grow H (upd H p o) := Same.grow (same_new h o)
theorem Grow.seqT {K : PySem.W.Frag} {H H' : Hp} {a : Addr} {xs : List V} (e : Grow H H') (h : SqT K H a xs) : SqT K H' a xs := by
  rcases h with (h | ⟨o, h⟩) | h
  · exact .inl (.inl (e _ _ h (by intro _ q; cases q)))
  · exact .inl (.inr ⟨o, e _ _ h (by intro _ q; cases q)⟩)
  · exact .inr h
def MkV (K : PySem.W.Frag) (H : Hp) (m : Mk) (v : V) : Prop := ∃ b, v = .ref b ∧ SqT K H b [.int m.1, .str m.2]
def StV (K : PySem.W.Frag) (H : Hp) (t : Stp) (v : V) : Prop := ∃ b, v = .ref b ∧ SqT K H b [.int t.1, .str t.2.1, .str t.2.2.1, .int t.2.2.2]
theorem MkV.mono {K : PySem.W.Frag} {H H' : Hp} {m : Mk} {v : V} (g : Grow H H') : MkV K H m v → MkV K H' m v := fun ⟨b, e, h⟩ => ⟨b, e, g.seqT h⟩
theorem StV.mono {K : PySem.W.Frag} {H H' : Hp} {m : Stp} {v : V} (g : Grow H H') : StV K H m v → StV K H' m v := fun ⟨b, e, h⟩ => ⟨b, e, g.seqT h⟩
theorem paired_mono {α β : Type} {F G : α → β → Prop} (h : ∀ a b, F a b → G a b) : ∀ {xs : List α} {ys : List β}, Paired F xs ys → Paired G xs ys
  | _, _, .nil => .nil
  | _, _, .cons p q => .cons (h _ _ p) (paired_mono h q)
theorem paired_append {α β : Type} {F : α → β → Prop} : ∀ {xs xs' : List α} {ys ys' : List β}, Paired F xs ys → Paired F xs' ys' → Paired F (xs ++ xs') (ys ++ ys')
  | _, _, _, _, .nil, q => q
  | _, _, _, _, .cons p r, q => .cons p (paired_append r q)
theorem paired_get {α β : Type} {F : α → β → Prop} : ∀ {xs : List α} {ys : List β} {i : Nat} {y : β}, Paired F xs ys → ys[i]? = some y → ∃ x, xs[i]? = some x ∧ F x y
  | _, _, _, _, .nil, e => by simp at e
  | _, _, 0, _, .cons p _, e => by simp at e; subst e; exact ⟨_, rfl, p⟩
  | _, _, i + 1, y, .cons _ q, e => by
    obtain ⟨x, h1, h2⟩ := paired_get (i := i) (y := y) q (by simpa using e)
    exact ⟨x, by simpa using h1, h2⟩
structure Scr where
  signs : Str
  rooms : Int
  begins : List Mk
  steps : List Stp
  ends : List Mk
def ScV (K : PySem.W.Frag) (H : Hp) (s : Scr) (v : V) (pb ps pe : Addr) : Prop := ∃ a xb xs xe, v = .ref a ∧ SqT K H a [.str s.signs, .int s.rooms, .ref pb, .ref ps, .ref pe] ∧ SqL K H pb xb ∧ SqL K H ps xs ∧ SqL K H pe xe ∧
  Paired (MkV K H) s.begins xb ∧ Paired (StV K H) s.steps xs ∧ Paired (MkV K H) s.ends xe
/-! as deep data -/
def dMk (m : Mk) : D := .tup [.int m.1, .str m.2]
def dSt (t : Stp) : D := .tup [.int t.1, .str t.2.1, .str t.2.2.1, .int t.2.2.2]
theorem rep_int {K : PySem.W.Frag} {H : Hp} (i : Int) : Rep K H (.int i) (.int i) := by unfold Rep; rfl
theorem rep_str {K : PySem.W.Frag} {H : Hp} (x : Str) : Rep K H (.str x) (.str x) := by unfold Rep; rfl
theorem rep_tup {K : PySem.W.Frag} {H : Hp} {a : Addr} {xs : List V} {ds : List D} (h : SqT K H a xs) (r : Reps K H ds xs) : Rep K H (.tup ds) (.ref a) := by unfold Rep; exact ⟨a, xs, rfl, h, r⟩
theorem rep_lst {K : PySem.W.Frag} {H : Hp} {a : Addr} {xs : List V} {ds : List D} (h : SqL K H a xs) (r : Reps K H ds xs) : Rep K H (.lst ds) (.ref a) := by unfold Rep; exact ⟨a, xs, rfl, h, r⟩
theorem MkV.rep {K : PySem.W.Frag} {H : Hp} {m : Mk} {v : V} : MkV K H m v → Rep K H (dMk m) v
  | ⟨_, e, h⟩ => by subst e; exact rep_tup h (.cons (rep_int _) (.cons (rep_str _) .nil))
theorem StV.rep {K : PySem.W.Frag} {H : Hp} {m : Stp} {v : V} : StV K H m v → Rep K H (dSt m) v
  | ⟨_, e, h⟩ => by subst e; exact rep_tup h (.cons (rep_int _) (.cons (rep_str _) (.cons (rep_str _) (.cons (rep_int _) .nil))))
theorem reps_of {K : PySem.W.Frag} {H : Hp} {α : Type} {F : α → V → Prop} {f : α → D} (h : ∀ a v, F a v → Rep K H (f a) v) : ∀ {xs : List α} {vs : List V}, Paired F xs vs → Reps K H (xs.map f) vs
  | _, _, .nil => .nil
  | _, _, .cons p q => .cons (h _ _ p) (reps_of h q)
theorem deeps_map {α : Type} (f : α → D) (n : Nat) (h : ∀ a, deep (f a) ≤ n) : ∀ xs : List α, deeps (xs.map f) ≤ n
  | [] => by rw [List.map_nil, deeps]; exact Nat.zero_le _
  | x :: xs => by
    have h1 := h x
    have h2 := deeps_map f n h xs
    rw [List.map_cons, deeps]; omega
theorem deep_dMk (m : Mk) : deep (dMk m) ≤ 1 := by unfold dMk; simp [deep, deeps]
theorem deep_dSt (m : Stp) : deep (dSt m) ≤ 1 := by unfold dSt; simp [deep, deeps]
theorem eqD_dMk (a b : Mk) : eqD (dMk a) (dMk b) = decide (a = b) := by
  obtain ⟨i, x⟩ := a; obtain ⟨j, y⟩ := b
  unfold dMk
  simp only [eqD, eqDs, Bool.and_true]
  by_cases h1 : i = j <;> by_cases h2 : x = y <;> simp [h1, h2]
theorem eqD_dSt (a b : Stp) : eqD (dSt a) (dSt b) = decide (a = b) := by
  obtain ⟨i, x, z, k⟩ := a; obtain ⟨j, y, u, l⟩ := b
  unfold dSt
  simp only [eqD, eqDs, Bool.and_true]
  by_cases h1 : i = j <;> by_cases h2 : x = y <;> by_cases h3 : z = u <;> by_cases h4 : k = l <;> simp [h1, h2, h3, h4]
theorem any_mem {α : Type} [DecidableEq α] (f : α → D) (h : ∀ a b, eqD (f a) (f b) = decide (a = b)) (x : α) : ∀ xs : List α, ((xs.map f).any fun e => eqD e (f x)) = decide (x ∈ xs)
  | [] => by simp
  | y :: ys => by
    rw [List.map_cons, List.any_cons, any_mem f h x ys, h]
    by_cases c : y = x
    · simp [c]
    · simp [c, show ¬ x = y from fun q => c q.symm]
/-! ### the list's insert; a number of the module -/
section
variable {X : Cx}
theorem pe_globI {x : Str} {i : Int} {pos : Pos} (hg : Gl X x) (hm : ∃ t, X.mg x = some (.int i t)) (hd : (x == ("__debug__" : Str)) = false := by decide) : PE X (.Name x pos) (tC (.int i)) := by
  obtain ⟨t, hm⟩ := hm
  exact pe_glob hg hm ⟨t, rfl⟩ hd
end
/-! in a block: the fragment named outright -/
theorem kIx {X : Cx} {K : PySem.W.Frag} (r : PySem.W.Frag → R2) (h : IxR X (r X.K)) (e : X.K = K := by rfl) : IxR X (r K) := e ▸ h
theorem kSl {X : Cx} {K : PySem.W.Frag} (r : PySem.W.Frag → V → Option Int → Option Int → Hp → VK → Prop) (h : SlR X (r X.K)) (e : X.K = K := by rfl) : SlR X (r K) := e ▸ h
theorem kOp {X : Cx} {K : PySem.W.Frag} {f : Value → Value → Sem Value} (r : PySem.W.Frag → R2) (h : OpR X f (r X.K)) (e : X.K = K := by rfl) : OpR X f (r K) := e ▸ h
def rLenS (K : PySem.W.Frag) : List V → Hp → VK → Prop := fun xs H Q => ∃ p ys, xs = [.ref p] ∧ (SqL K H p ys ∨ SqT K H p ys) ∧ Q (.int ys.length) H
theorem kLen {X : Cx} {K : PySem.W.Frag} (e : X.K = K := by rfl) : CallR X (.builtin "len") (rLenS K) := e ▸ call_len_seq
end L3

/-! Exceptions of own classes: raised, passing frames. -/
namespace L3
open PySem PySem.Spec PyProof.Rows L2
theorem ObjOk.there {P : Program} {w : World} {H : Hp} {h : Heap} : ∀ {a : Addr} {o : HO}, ObjOk P w H h a o → ∃ ob, h.get? a = some ob
  | _, .lst _, x => let ⟨_, _, _, _, e⟩ := x; ⟨_, e⟩
  | _, .tup _, x => let ⟨_, _, _, o, e, _⟩ := x; ⟨o, e⟩
  | _, .dK _, x => let ⟨_, _, _, _, o, _, _, e, _⟩ := x; ⟨o, e⟩
  | _, .dT _, x => let ⟨_, _, _, _, o, _, _, e, _⟩ := x; ⟨o, e⟩
  | _, .set _ _, x => let ⟨o, _, _, _, e, _⟩ := x; ⟨o, e⟩
  | _, .ins _ _ _, x => let ⟨_, _, _, e, _⟩ := x; ⟨_, e⟩
  | _, .own _, x => x
  | _, .xd _, x => let ⟨_, ⟨o, _, _, e, _⟩, _⟩ := x; ⟨o, e⟩
  | _, .met _ _, x => ⟨_, x⟩
  | _, .rng _ _, x => let ⟨_, _, _, e⟩ := x; ⟨_, e⟩
  | _, .frz o _, x => ⟨o, x.1⟩
  | _, .tbl _, x => ⟨_, x⟩
  | _, .ext _, x => x.2.1
structure Fly (P : Program) (w : World) (st : List Env) (H : Hp) (s : Shared) (x C : Addr) (H' : Hp) (s' : Shared) (B : Heap) : Prop where
  os : s'.os = s.os
  bare : AllBare s'.gens
  un : Un (frs st) [] H H' s.heap s'.heap
  hok : HOk P w H' s'.heap
  fl : ∃ t, Heap.FlyingW B st x (.ref C) (.ref t) s'.heap
  new : s.heap.get? x = none
  xf : H' x = none
  tr : ∀ b o, H' b ≠ none → s'.heap.get? b = some o → B.get? b = some o
  ol : ∀ b o, s.heap.get? b = some o → H b = none → b ∉ frs st → B.get? b = some o
  th : ∀ b o, s.heap.get? b = some o → b ∉ frs st → ∃ o', B.get? b = some o'
  ff : ∀ b ∈ frs st, H' b = none
def CX1 (P : Program) (w : World) : CXT := fun st H s E e s' => ∃ x C H' B, e = .ref x ∧ Fly P w st H s x C H' s' B ∧ E (.ref C) none H'
section
variable {P : Program} {w : World} {st : List Env} {H H' : Hp} {s s' : Shared} {x C : Addr} {B : Heap}
theorem Fly.turn (F : Fly P w st H s x C H' s' B) {h2 : Heap} (k : B.StaysIn h2) (u : s'.heap.UpToSlots h2) : Un (frs st) [] H H' s.heap h2 ∧ HOk P w H' h2 := by
  have slot : ∀ b ∈ frs st, ∀ o, s'.heap.get? b = some o → ∃ sl, h2.get? b = some { o with slots := sl } := fun b hb o q => by
    obtain ⟨t, fl⟩ := F.fl
    obtain ⟨_, o', e, d⟩ := fl.2.2.1.mem hb
    rw [q] at e; cases e
    exact u b o q d
  refine ⟨⟨fun b o q n hb _ => k b o (F.ol b o q n hb), fun b o q n hb hx => ?_, F.un.free, fun b o q hx => ?_, F.un.tups, F.un.frzs, F.un.tbls⟩, fun a o e => ?_⟩
  · obtain ⟨sl, e⟩ := F.un.slot b o q n hb hx
    obtain ⟨sl', e'⟩ := slot b hb _ e
    exact ⟨sl', e'⟩
  · by_cases hb : b ∈ frs st
    · obtain ⟨o', e⟩ := F.un.there b o q hx
      obtain ⟨sl, e'⟩ := slot b hb _ e
      exact ⟨_, e'⟩
    · obtain ⟨o', e⟩ := F.th b o q hb
      exact ⟨o', k b o' e⟩
  · refine (F.hok a o e).stay (fun b v hb q => ?_) (fun _ q => q) fun _ _ q => q
    refine k b v (F.tr b v ?_ q)
    rcases hb with rfl | hb
    · rw [e]; simp
    · rw [hb]; simp
end
section
variable {X : Cx} {pins : List (Addr × Obj)} {σ : L2.St} {H : Hp} {s : Shared}
theorem raise_fly {M : Model} {h2 : Heap} {x C : Addr} {vs : List Value} {Q : Unit → Shared → Prop} {E : Value → Shared → Prop} (I : Inv X pins σ H s) (hst : X.stack = X.env :: X.outer) (hfm : X.env.frame = some X.env.locals) (hex : X.ex = []) (hx : Heap.MadeExcOf s.heap h2 x (.ref C) vs)
    (q : ∀ h' B, Fly X.prog X.w X.outer X.H₀ X.s₀ x C H { s with heap := h' } B → Q () { s with heap := h' }) : wpAny M X.A (leaving X.env (.ref x)) Q E { s with heap := h2 } := by
  have hfr : X.A.frames = some (X.env :: X.outer) := by rw [← hst]; exact I.ok.frames
  have hstk := I.stack
  have inB : ∀ b o, s.heap.get? b = some o → b ∉ frs X.stack → (PySem.W.hideAll s.heap (frs X.stack)).get? b = some o := fun b o e n => PySem.W.hideAll_get _ e n
  have nst : ∀ b o, X.s₀.heap.get? b = some o → b ∉ X.fs → b ∉ frs X.stack := fun b o e n hb => by
    rcases List.mem_cons.mp (I.stkSub b hb) with z | z
    · exact absurd (Nat.lt_of_lt_of_le (Heap.lt_size e) I.ok.above) (by rw [z]; exact Nat.lt_irrefl _)
    · exact n z
  have noex : ∀ b : Addr, b ∉ X.ex := fun b => by rw [hex]; simp
  have fsub : ∀ b ∈ X.fs, b ∈ frs X.stack := fun b hb => by
    rw [hst]; unfold frs; rw [List.filterMap_cons, hfm]; exact List.mem_cons_of_mem _ hb
  have hff := PySem.W.funFrames_hide (as := frs X.stack) hstk (fun env he a ha => List.mem_filterMap.mpr ⟨env, he, ha⟩)
  rw [hst] at hff
  refine wpAny_leaves_madeW (base := PySem.W.hideAll s.heap (frs (X.env :: X.outer))) (h := s.heap) (s := { s with heap := h2 }) (L := X.env.locals) hfr hfm (fun b o e => PySem.W.of_hideAll _ e) hff hx fun h' t f1 f2 f3 f4 => ?_
  rw [← hst] at f1 f3
  have keepB : ∀ b o, s.heap.get? b = some o → b ∉ frs X.stack → h'.get? b = some o := fun b o e n => f1.1 b o (inB b o e n)
  have slot : ∀ b ∈ frs X.stack, ∀ o, s.heap.get? b = some o → ∃ sl, h'.get? b = some { o with slots := sl } := fun b hb o e => by
    obtain ⟨_, o', e', d⟩ := hstk.mem hb
    rw [e] at e'; cases e'
    exact f4 b o (hx.keeps b o e) d
  have xnew : X.s₀.heap.get? x = none := by
    cases e : X.s₀.heap.get? x with
    | none => rfl
    | some o =>
      obtain ⟨o', e'⟩ := I.base.there x o e (noex x)
      rw [hx.new] at e'; cases e'
  refine q h' _ ⟨I.os, I.bare, ⟨fun b o e n hb _ => ?_, fun b o e n hb _ => ?_, fun b o e n _ => I.base.free b o e n (noex b), fun b o e _ => ?_, I.base.tups, I.base.frzs, I.base.tbls⟩, fun a u e => ?_, ⟨t, f1⟩, xnew, ?_, fun b o hb e => ?_, fun b o e n hb => ?_, fun b o e hb => ?_, fun b hb => ?_⟩
  · exact keepB b o (I.base.keep b o e n hb (noex b)) (nst b o e hb)
  · obtain ⟨sl, e1⟩ := I.base.slot b o e n hb (noex b)
    obtain ⟨sl', e2⟩ := slot b (fsub b hb) _ e1
    exact ⟨sl', e2⟩
  · obtain ⟨o', e1⟩ := I.base.there b o e (noex b)
    by_cases hb : b ∈ frs X.stack
    · obtain ⟨sl, e2⟩ := slot b hb _ e1
      exact ⟨_, e2⟩
    · exact ⟨o', keepB b o' e1 hb⟩
  · refine (I.hok a u e).stay (fun b v hb q => keepB b v q fun z => ?_) (fun _ q => q) fun _ _ q => q
    have := I.stkFree b z
    rcases hb with rfl | hb
    · rw [e] at this; cases this
    · rw [hb] at this; cases this
  · cases e : H x with
    | none => rfl
    | some u =>
      obtain ⟨o, e'⟩ := ObjOk.there (I.hok x u e)
      rw [hx.new] at e'; cases e'
  · cases e' : H b with
    | none => exact absurd e' hb
    | some u =>
      obtain ⟨o1, e1⟩ := ObjOk.there (I.hok b u e')
      have nb : b ∉ frs X.stack := fun z => by have := I.stkFree b z; rw [e'] at this; cases this
      have e2 := keepB b o1 e1 nb
      have e3 : h'.get? b = some o := e
      rw [e3] at e2; cases e2
      exact inB b o e1 nb
  · exact inB b o (I.base.keep b o e n hb (noex b)) (nst b o e hb)
  · obtain ⟨o', e1⟩ := I.base.there b o e (noex b)
    exact ⟨o', inB b o' e1 (nst b o e hb)⟩
  · exact I.stkFree b (fsub b hb)
theorem pass_fly {M : Model} {s2 : Shared} {H2 : Hp} {x C : Addr} {B : Heap} {Q : Unit → Shared → Prop} {E : Value → Shared → Prop} (I : Inv X pins σ H s) (hst : X.stack = X.env :: X.outer) (hfm : X.env.frame = some X.env.locals) (hex : X.ex = []) (F : Fly X.prog X.w X.stack H s x C H2 s2 B)
    (q : ∀ h', Fly X.prog X.w X.outer X.H₀ X.s₀ x C H2 { s2 with heap := h' } B → Q () { s2 with heap := h' }) : wpAny M X.A (leaving X.env (.ref x)) Q E s2 := by
  have hfr : X.A.frames = some (X.env :: X.outer) := by rw [← hst]; exact I.ok.frames
  obtain ⟨t, fl⟩ := F.fl
  have nst : ∀ b o, X.s₀.heap.get? b = some o → b ∉ X.fs → b ∉ frs X.stack := fun b o e n hb => by
    rcases List.mem_cons.mp (I.stkSub b hb) with z | z
    · exact absurd (Nat.lt_of_lt_of_le (Heap.lt_size e) I.ok.above) (by rw [z]; exact Nat.lt_irrefl _)
    · exact n z
  have noex : ∀ b : Addr, b ∉ X.ex := fun b => by rw [hex]; simp
  have fsub : ∀ b ∈ X.fs, b ∈ frs X.stack := fun b hb => by
    rw [hst]; unfold frs; rw [List.filterMap_cons, hfm]; exact List.mem_cons_of_mem _ hb
  have fl' := fl
  rw [hst] at fl'
  refine wpAny_leaves_onW hfr hfm fl' fun h' f1 f2 => ?_
  obtain ⟨un, hok⟩ := F.turn f1.1 f2
  have xnew : X.s₀.heap.get? x = none := by
    cases e : X.s₀.heap.get? x with
    | none => rfl
    | some o =>
      obtain ⟨o', e'⟩ := I.base.there x o e (noex x)
      rw [F.new] at e'; cases e'
  refine q h' ⟨?_, F.bare, ⟨fun b o e n hb _ => ?_, fun b o e n hb _ => ?_, fun b o e n _ => ?_, fun b o e _ => ?_, fun b xs e => un.tups b xs (I.base.tups b xs e), fun b o u e => un.frzs b o u (I.base.frzs b o u e), fun b ps e => ?_⟩, hok, ⟨t, f1⟩, xnew, F.xf, fun b o hb e => ?_, fun b o e n hb => ?_, fun b o e hb => ?_, fun b hb => F.ff b (fsub b hb)⟩
  · exact F.os.trans I.os
  · exact un.keep b o (I.base.keep b o e n hb (noex b)) (I.base.free b o e n (noex b)) (nst b o e hb) (by simp)
  · obtain ⟨sl, e1⟩ := I.base.slot b o e n hb (noex b)
    obtain ⟨sl', e2⟩ := un.slot b _ e1 (I.base.free b o e n (noex b)) (fsub b hb) (by simp)
    exact ⟨sl', e2⟩
  · obtain ⟨o', e1⟩ := I.base.there b o e (noex b)
    exact un.free b o' e1 (I.base.free b o e n (noex b)) (by simp)
  · obtain ⟨o', e1⟩ := I.base.there b o e (noex b)
    exact un.there b o' e1 (by simp)
  · obtain ⟨m1, e1⟩ := I.base.tbls b ps e
    obtain ⟨m2, e2⟩ := un.tbls b _ e1
    exact ⟨m1 ++ m2, by rw [e2, Array.append_assoc]⟩
  · cases e' : H2 b with
    | none => exact absurd e' hb
    | some u =>
      obtain ⟨o1, e1⟩ := ObjOk.there (F.hok b u e')
      have e2 := F.tr b o1 hb e1
      have e3 := f1.1 b o1 e2
      have e4 : h'.get? b = some o := e
      rw [e4] at e3; cases e3
      exact e2
  · exact F.ol b o (I.base.keep b o e n hb (noex b)) (I.base.free b o e n (noex b)) (nst b o e hb)
  · obtain ⟨o', e1⟩ := I.base.there b o e (noex b)
    exact F.th b o' e1 (nst b o e hb)
end
end L3

/-! An exception object of an own class: its class, isinstance; a clause that takes it. -/
namespace L3
open PySem PySem.Spec PyProof.Rows L2 PySem.W PySem.Builtin PySem.Builtin.ObjectAttr PySem.Builtin.Getset_descriptor PySem.Calls
structure XCls (K : Frag) (C : Addr) : Prop where
  ga : findIn K (.ref C) "__getattribute__" = some (some (.builtin "BaseException.__getattribute__"))
  gh : findIn K (.ref C) "__getattr__" = some none
  bs : mroIn K C (.type "BaseException") = some true
  cl : (clsIn K C).isSome = true
  ha : findIn K (.ref C) "__class__" = some (some (.builtin "object.__class__"))
  hn : specialIn K (.builtin "object.__class__") "__get__" = some (some (.builtin "getset_descriptor.__get__"))
  htk : takesIn K (.builtin "object.__class__") = some true
  hm : mroIn K C (.type "object") = some true
section
variable {prog : Program} {w : World} {A : Around} {E : Value → Shared → Prop} {s : Shared} {K : Frag} {x C : Addr}
end
end L3

/-! raise C(..), calls that may raise, try with one call, isinstance of what was caught. -/
namespace L3
open PySem PySem.Spec PyProof.Rows L2
abbrev bmV : List Value := [.type "ValueError", .type "Exception", .type "BaseException", .type "object"]
theorem own_obj {K : PySem.W.Frag} {h : Heap} {C : Addr} {bB : List Value} {nid : String} (X : K.In h) (e : PySem.W.excIn K C bB nid = true) :
    ∃ bm N nm q bs hd sn sub ab col dd k0 k1 k2 k3 k5 mN, h.get? C = some (excClassObj nm q C N bs bm hd sn sub ab col dd k0 k1 k2 k3 k5 nid) ∧ h.Ns N mN ∧ mN "__init__" = none ∧ OwnTail h bB bm := by
  unfold PySem.W.excIn at e
  split at e
  · rename_i dd cd slots hl
    split at e
    · rename_i C1 bm k0 k1 k2 k3 n1 k5 hmro hslots
      simp only [Bool.and_eq_true, beq_iff_eq, Bool.not_eq_true'] at e
      obtain ⟨⟨⟨⟨⟨e1, e2⟩, e3⟩, e4⟩, e5⟩, e6⟩ := e
      subst e1 e2
      obtain ⟨a1, a2, a3, a4, a5, a6, a7, a8, a9, a10, a11⟩ := cd
      dsimp only at hmro e3 e5 e6
      subst hmro e3
      have es : slots = #[k0, k1, k2, k3, some (.builtin n1), k5] := by
        obtain ⟨l⟩ := slots
        simp only at hslots
        rw [hslots]
      subst es
      exact ⟨bm, a4, a1, a5, a2, a6, a7, a8, a9, a10, dd, k0, k1, k2, k3, k5, _, X _ _ hl, .of_isNs (PySem.W.isNs_of_in X e5), PySem.W.nsMap_none_of_in X e5 e6, PySem.W.tail_of_in X e4⟩
    · cases e
  · cases e
structure OwnX (K : PySem.W.Frag) (mg : Str → Option Value) (x : Str) (C : Addr) : Prop where
  nm : mg x = some (.ref C)
  ex : PySem.W.excIn K C bmV "ValueError.__new__" = true
section
variable {X : Cx}
def Raises (X : Cx) (E : XK) : Prop := ∀ (pins : List (Addr × Obj)) (σ : L2.St) (H : Hp) (s : Shared) (h2 : Heap) (x C : Addr) (vs : List Value), Inv X pins σ H s → Heap.MadeExcOf s.heap h2 x (.ref C) vs → E (.ref C) none H → X.xe (.ref x) { s with heap := h2 }
def tRaise (C : Addr) (E : XK) (te : TE) : TS := fun _ σ H => te σ H fun v H1 => [v].length = 1 ∧ E (.ref C) none H1
theorem ps_raise {x : Str} {C : Addr} {E : XK} {e : Expr} {te : TE} {np cpos pos : Pos} (O : OwnX X.K X.mg x C) (hc : X.calm = true) (hg : Gl X x) (hR : Raises X E) (he : PE X e te) (hd : (x == ("__debug__" : Str)) = false := by decide)
    (hs : starEach [e] X.env = [(false, eval e X.env)] := by rfl) (hpl : (backTo cpos (starEach [e] X.env)).any (·.1) = false := by rfl) : PS X (.Raise (some (.Call (.Name x np) [e] [] cpos)) none pos) (tRaise C E te) := by
  intro pins s σ H D I h
  obtain ⟨bm, N, nm, q, bs, hdct, sn, sub, ab, col, dd, k0, k1, k2, k3, k5, mN, hC, hN, hni, T⟩ := own_obj (h := X.base) I.ok.mod.kin O.ex
  have FV := PySem.F.excBase_ValueError
  refine wpAny_Raise_call_subU (C := C) (nm := nm) (q := q) (N := N) (bs := bs) (bm := bm) (hdct := hdct) (sn := sn) (sub := sub) (ab := ab) (col := col) (dd := dd) (k0 := k0) (k1 := k1) (k2 := k2) (k3 := k3) (k5 := k5) (mN := mN)
    FV (by decide) FV (T.hasType FV.hasBase) (I.ok.hd hc) hpl hni (ld_glob I hg O.nm ⟨rfl, ?_⟩ hd)
  have pa : PA X [e] (tCons te tNil) := pa_cons he pa_nil hs
  rw [hs]
  refine Calls.evalArgs_plain ?_
  have run := pa cpos pins s σ H (fun ws H1 => ws.length = 1 ∧ E (.ref C) none H1) I h
  rw [hs] at run
  refine wpAny_mono run (fun vs s2 ⟨ws, H2, I2, rv, hw, hE⟩ => ?_) fun _ _ y => y
  have hl : vs.length ≤ sizeLine := by
    rw [← rv.length, hw]; decide
  exact ⟨rfl, hl, I2.bk _ _ hC, hN.keeps I2.bk, T.keeps I2.bk, fun h' x0 hm => hR pins σ H2 s2 h' x0 C vs I2 hm hE⟩
/-! ### an own def that may raise -/
def Cal1 (P : Program) (w : World) (K : PySem.W.Frag) (mg : Str → Option Value) (base : Heap) (x : Str) (ps : List Str) (k : Nat) (sp : Sp) : Prop :=
  ∃ f fd, FnOk P w K mg base (CX1 P w) k f fd ps sp ∧ Binds K fd ps [] ∧ PySem.W.keepIn K (.ref f) = true ∧ mg x = some (.ref f)
def tFn1 (sp : Sp) (E : XK) (t : TA) : TE := fun σ H Q => t σ H fun vs H1 => sp vs H1 Q E
theorem pe_fn1 {x : Str} {ps : List Str} {k k' : Nat} {sp : Sp} {E : XK} {p pos : Pos} {e : Expr} {es : List Expr} {t : TA} (C : Cal1 X.prog X.w X.K X.mg X.base x ps k sp) (hr : Room k' X.A) (hk : k ≤ k') (hg : Gl X x) (hx : Passes (CX1 X.prog X.w) X E)
    (ha : PA X (e :: es) t) (hdb : (x == ("__debug__" : Str)) = false := by decide) (he : starEach (e :: es) X.env = (false, eval e X.env) :: starEach es X.env := by rfl) (hpl : (backTo pos (starEach es X.env)).any (·.1) = false := by rfl) :
    PE X (.Call (.Name x p) (e :: es) [] pos) (tFn1 sp E t) := by
  obtain ⟨f, fd, F, b, kp, hm⟩ := C
  intro pins s σ H Q I h
  refine wpAny_Call_Name_kw (ld_glob I hg hm ?_ hdb)
  refine PySem.W.callWith_K (h₀ := X.base) I.ok.mod.kin kp (thn (ha pos pins s σ H _ I h) fun us s1 ⟨vs, H1, I1, r, q⟩ => ⟨I1.kIn, ?_⟩) he hpl
  exact run_fn (dvs := []) F (hr.mono hk) b .nil hx I1 r (by rw [List.append_nil]; exact q)
theorem pass_no : Passes (CX1 X.prog X.w) X E0 := fun _ _ _ _ _ _ _ ⟨_, _, _, _, _, _, h⟩ => h.elim
end
section
variable {P : Program} {w : World} {K : PySem.W.Frag} {mg : Str → Option Value} {base : Heap} {N : List Str} {qual : Str} {scope : Scope} {f : Addr} {cd : Value} {A : Around} {outer : List Env} {s : Shared} {H : Hp} {E : XK}
theorem pass_on : Passes (CX1 P w) (cxOf (CX1 P w) P w K mg base N qual scope f cd A outer s H E) E := by
  intro pins σ H1 s1 e s2 I h
  obtain ⟨x, C, H2, B, rfl, F, hE⟩ := h
  show wpAny (model P w) _ (leaving _ (.ref x)) _ _ s2
  exact pass_fly I rfl rfl rfl F fun h' F' => ⟨x, C, H2, B, rfl, F', hE⟩
theorem raise_on : Raises (cxOf (CX1 P w) P w K mg base N qual scope f cd A outer s H E) E := by
  intro pins σ H1 s1 h2 x C vs I hm hE
  show wpAny (model P w) _ (leaving _ (.ref x)) _ _ _
  exact raise_fly I rfl rfl rfl hm fun h' B F' => ⟨x, C, H1, B, rfl, F', hE⟩
theorem Fun.ok1 {x : Str} {st : Stmt} {fd : FuncData} {ps : List Str} {k : Nat} {sp : Sp} (F : Fun K x qual st f fd) (S : FnScope N ps (defScope st)) (len : ∀ vs H Q E, sp vs H Q E → vs.length = ps.length)
    (hbody : ∀ (cdv : Value) (A : Around) (outer : List Env) (s : Shared) (H : Hp) (vs : List V) (Q : VK) (E : XK), Room k (A.deeper (envOfC qual (defScope st) s.heap.objs.size f cdv)) → sp vs H Q E →
      ∃ t, PSs (cxOf (CX1 P w) P w K mg base N qual (defScope st) f cdv A outer s H E) (defBody st) t ∧ t { nx := fun _ H' => Q .non H', rt := Q } (start N vs) H) : FnOk P w K mg base (CX1 P w) (k + 1) f fd ps sp := by
  obtain ⟨oc, od, kV, doc, pm, an, cdv, ct, osl, rfl, lk, hcd⟩ := F.ex
  exact fn_of lk hcd S len fun A outer s H vs Q E hr hsp => hbody cdv A outer s H vs Q E hr hsp
end
/-! ### what was caught -/
section
variable {X : Cx}
end
end L3

/-! try: y = f(..) / except S as n: z = n -/
namespace L3
open PySem PySem.Spec PyProof.Rows L2
section
variable {X : Cx} {pins : List (Addr × Obj)} {σ : L2.St} {H : Hp} {s : Shared}
end
end L3

/-! try: f(..) as a statement of its own, except C as n: z = n. -/
namespace L3
open PySem PySem.Spec PyProof.Rows L2
section
variable {X : Cx} {pins : List (Addr × Obj)} {σ : L2.St} {H : Hp} {s : Shared}
end
end L3

/-! a try whose block chooses between three calls, each a statement of its own. -/
namespace L3
open PySem PySem.Spec PyProof.Rows L2 PySem.W
section
variable {X : Cx}
end
end L3
namespace L3
open PySem PySem.Spec PyProof.Rows L2
end L3
namespace L3
open PySem PySem.Spec PyProof.Rows L2
theorem pe_or {X : Cx} {e : Expr} {t1 t2 : TE} (h1 : PE X e t1) (h2 : PE X e t2) : PE X e (fun σ H Q => t1 σ H Q ∨ t2 σ H Q) := fun pins s σ H Q I h => h.elim (h1 pins s σ H Q I) (h2 pins s σ H Q I)
end L3

/-! Dicts: setdefault, get; keys that are numbers, texts, or tuples of these. -/
namespace L3
open PySem PySem.Spec PyProof.Rows L2
section
variable {prog : Program} {w : World} {κ : Type} [DecidableEq κ] {knd : HeapKind prog w κ} {A : Around} {E : Value → Shared → Prop} {s : Shared}
theorem sd_heap {d a : Addr} {xs : List (κ × Addr × Value)} {k : κ} {v : Value} {Q : Value → Shared → Prop} (hu : knd.room A) (hkey : knd.is s.heap k a) (hm : s.heap.DictOfH knd d xs) (hsz : xs.length ≤ sizeLine)
    (h1 : ∀ p, atKey xs k = some p → Q p.2 { s with toks := s.toks + knd.draws k })
    (h2 : atKey xs k = none → ∀ h', h'.DictOfH knd d (storedH xs k a v) → Heap.SameBut d s.heap h' → Q v { s with heap := h', toks := s.toks + knd.draws k }) :
    wpAny (model prog w) A (dictSetDefault d (.ref a) v) Q E s := by
  obtain ⟨o, es, ep, ho, hc, hd, he, his, hn⟩ := hm
  unfold dictSetDefault
  try with_reducible refine wpAny_holding ?_
  refine wpAny_bind (knd.pyHash hu hkey (wpAny_bind (wpAny_dictFind_heap (s := { s with toks := s.toks + knd.draws k }) hu hkey ho hd he his hn ?_ ?_)))
  · intro hno
    have hnot : k ∉ xs.map (·.1) := not_mem_keys_of_get hno
    have hsn := storedH_new (a := a) (v := v) (atKey_none_of_get hno)
    refine wpAny_bind (wpAny_rule (wpAny_bind (wpAny_updateDictKeys (hz := by have e := size_of_entries he; omega) (s := { s with toks := s.toks + knd.draws k }) ho hd (wpAny_pure
      (h2 (atKey_none_of_get hno) _ ⟨_, _, ep + 1, Heap.get?_update_self _ ho (Obj.isFreed_of_dict (Obj.data_mapDictKeys hd _)), hc.mapDictKeys _, Obj.data_mapDictKeys hd _, ?_, ?_, ?_⟩ (Heap.SameBut.update ..))))))
    · rw [hsn]; simp [he, entryOfKey]
    · rw [hsn]
      intro x hx
      rcases List.mem_append.mp hx with hx | hx
      · exact knd.keeps (his x hx) ho hd (Heap.SameBut.update ..)
      · cases List.mem_singleton.mp hx
        exact knd.keeps hkey ho hd (Heap.SameBut.update ..)
    · rw [hsn, List.map_append, List.nodup_append]
      refine ⟨hn, by simp, fun x hx y hy => ?_⟩
      cases List.mem_singleton.mp hy
      exact fun e => hnot ((show x = k from e) ▸ hx)
  · intro j p hj
    refine wpAny_bind (wpAny_dictEntries (s := { s with toks := s.toks + knd.draws k }) ho hd ?_)
    rw [entry_at he j, hj]
    exact wpAny_bind (wpAny_rule (wpAny_pure (h1 _ (atKey_of_get hn hj))))
theorem sd_meets {d a : Addr} (hd : (d == sysModules) = false) (dflt : Value) :
    MeetsIn prog w (Builtin.«dict.setdefault» ⟨[.ref d, .ref a, dflt], []⟩) (fun A R s => knd.room A.in1 ∧ ∃ k xs, knd.is s.heap k a ∧ s.heap.DictOfH knd d xs ∧ xs.length ≤ sizeLine ∧
      (∀ p, atKey xs k = some p → R (.ok (.ret p.2)) { s with toks := s.toks + knd.draws k }) ∧
      (atKey xs k = none → ∀ h', h'.DictOfH knd d (storedH xs k a dflt) → Heap.SameBut d s.heap h' → R (.ok (.ret dflt)) { s with heap := h', toks := s.toks + knd.draws k })) :=
  .of_wp fun A R s ⟨hu, k, xs, hkey, hm, hz, h1, h2⟩ => by
    unfold Builtin.«dict.setdefault»
    refine wpAny_bind ?_
    unfold Builtin.Dict.keyAndDefault
    refine wpAny_bind (wpAny_notOrdered_dict hm.typeIs ?_)
    show wpAny _ _ (pure (d, Value.ref a, some dflt)) _ _ s
    refine wpAny_pure ?_
    show wpAny _ _ (if (d == sysModules) = true then _ else (dictSetDefault d (.ref a) dflt >>= _)) _ _ s
    rw [if_neg (by rw [hd]; exact Bool.false_ne_true)]
    exact wpAny_bind (sd_heap hu hkey hm hz (fun p hp => wpAny_pure ⟨_, rfl, h1 p hp⟩) fun hn h' hm' hs' => wpAny_pure ⟨_, rfl, h2 hn h' hm' hs'⟩)
end
section
variable {X : Cx}
def rSetD : V → List V → Hp → VK → Prop := fun x vs H Q => ∃ a y z, x = .ref a ∧ vs = [y, z] ∧
  ((∃ kvs k, H a = some (.dK kvs) ∧ y = kV k ∧ kvs.length < sizeLine ∧ (∀ r, valV kvs k = some r → Q r H) ∧ (valV kvs k = none → Q z (upd H a (.dK (putK kvs k z))))) ∨
   ∃ kvs k b, H a = some (.dT kvs) ∧ y = .ref b ∧ H b = some (.tup (k.map kV)) ∧ kvs.length < sizeLine ∧ (∀ r, valV kvs k = some r → Q r H) ∧ (valV kvs k = none → Q z (upd H a (.dT (putK kvs k z)))))
theorem args_sd (a b c : Value) : argsOk "dict.setdefault" ⟨[a, b, c], []⟩ := by unfold argsOk; kernel_rfl
theorem mt_setdefault {k0 : Nat} (hr : Room k0 X.A) : MtR X "dict.setdefault" rSetD := by
  intro pins s σ H x vs v us Q I rx rv h
  obtain ⟨a, y, z, rfl, rfl, h⟩ := h
  cases rx
  obtain ⟨u, r, rfl, ru, rr⟩ := vals2 rv
  rcases h with ⟨kvs, k, e, rfl, hl, h1, h2⟩ | ⟨kvs, k, b, e, rfl, eb, hl, h1, h2⟩
  · obtain ⟨hz, hd, ws, rel, dd⟩ := dk_of I.hok e
    refine call_meetsIn PySem.F.slot_dict_setdefault dd.typeIs PySem.F.entry_dict_setdefault (args_sd _ _ _) (kt_meets_setdefault (mixKind X.prog X.w) a (kV_is ru) hd r)
      ⟨ws, dd, by rw [← rel.length]; exact hz, fun v' hv' => ?_, fun hn h' dd' hs => ?_⟩
    · have q := rel.val k
      rw [hv'] at q
      cases hk : valV kvs k with
      | none => rw [hk] at q; exact q.elim
      | some r' => rw [hk] at q; exact ⟨r', H, I.tok _, q, h1 r' hk⟩
    · have q := rel.val k
      rw [hn] at q
      cases hk : valV kvs k with
      | some r' => rw [hk] at q; exact q.elim
      | none =>
        refine ⟨z, _, d_write I (by rw [e]; exact True.intro) hs (let ⟨q, _, _, hq, _⟩ := dd'; ⟨q, hq⟩) (dk_new ?_ hd (rel.put k rr) dd'), rr, h2 hk⟩
        have := length_putK kvs k z
        omega
  · cases (show u = Value.ref b from ru)
    obtain ⟨hz, hd, xs, rel, dd⟩ := dt_of I.hok e
    refine call_meetsIn PySem.F.slot_dict_setdefault dd.typeIs PySem.F.entry_dict_setdefault (args_sd _ _ _) (sd_meets (knd := tupleKind (mixKind X.prog X.w)) (d := a) (a := b) hd r)
      ⟨tupleKind_room_in1 (hu_of hr), k, xs, key_of I.hok eb, dd, by rw [← Paired.length rel]; exact hz, fun p hp => ?_, fun hn h' dd' hs => ?_⟩
    · have q := rel.val k
      rw [hp] at q
      cases hk : valV kvs k with
      | none => rw [hk] at q; exact q.elim
      | some r' => rw [hk] at q; exact ⟨r', H, I.tok _, q, h1 r' hk⟩
    · have q := rel.val k
      rw [hn] at q
      cases hk : valV kvs k with
      | some r' => rw [hk] at q; exact q.elim
      | none =>
        obtain ⟨q, es, ep, hq, g2, g3, g4, _, g5⟩ := dd'
        refine ⟨z, upd H a (.dT (putK kvs k z)), d_write (ob := .dT (putK kvs k z)) I (by rw [e]; exact True.intro) hs ⟨q, hq⟩ ⟨?_, hd, _, (rel.put k eb rr).keeps fun c ys ec => ?_, q, es, ep, hq, g2, g3, g4, g5⟩, rr, h2 hk⟩
        · have := length_putK kvs k z
          omega
        · rw [upd_ne (ne_of ec e (fun z => nomatch z))]
          exact ec
def rGet2 : V → List V → Hp → VK → Prop := fun x vs H Q => ∃ a y z o, x = .ref a ∧ vs = [y, z] ∧ DGet H a y o ∧ Q (o.getD z) H
theorem mt_get2 {k0 : Nat} (hr : Room k0 X.A) : MtR X "dict.get" rGet2 := by
  intro pins s σ H x vs v us Q I rx rv h
  obtain ⟨a, y, z, o, rfl, rfl, g, q⟩ := h
  cases rx
  obtain ⟨u, r, rfl, ru, rr⟩ := vals2 rv
  exact d_get2 (hu_of hr) I g ru rr fun w' s' I' rw' => ⟨_, H, I', rw', q⟩
end
end L3

/-! A loop over a text. -/
namespace L3
open PySem PySem.Spec PyProof.Rows L2
def Its (x : Str) : It := ⟨fun i _ => i < x.cps.size, fun i H v H' => H' = H ∧ ∃ c, x.cps[i]? = some c ∧ v = .str ⟨#[c]⟩, fun i _ => x.cps.size ≤ i⟩
theorem str_walks {prog : Program} {w : World} {A : Around} (hh : A.handled = none) (it : Addr) (x : Str) (t : Tok) {ty : String} (hty : ty = "str_ascii_iterator" ∨ ty = "str_iterator") :
    Walks prog w A it [it] [it] x.cps.size (SignAt x) (fun i h => h.IsStrIter it ty x t i) := by
  rcases hty with rfl | rfl
  · exact Walks.strAscii hh it x t
  · exact Walks.strWide hh it x t
theorem turn_str {P : Program} {w : World} {K : PySem.W.Frag} {tg : Expr} (it : Addr) (x : Str) (t : Tok) {ty : String} (hty : ty = "str_ascii_iterator" ∨ ty = "str_iterator") : Turn P w K tg (Its x) [it] it (fun i h => h.IsStrIter it ty x t i) where
  mem := by simp
  obj := fun i h st b hb => by
    have e : b = it := by simpa using hb
    subst e
    obtain ⟨o, e, c, d⟩ := st
    exact ⟨o, e, fun v z => by rw [d] at z; cases z⟩
  keep := fun i h h' st k => let ⟨o, ho, r⟩ := st; ⟨o, k it (by simp) o ho, r⟩
  item := by
    intro X hP hw hK hc i pins s σ H E I hf st hg
    subst hP hw hK
    obtain ⟨f0, f1, f2, f3, f4, f5⟩ := hf it (by simp)
    refine (str_walks (prog := X.prog) (w := X.w) (I.ok.hd hc) it x t hty).item i s _ _ hg st fun v h' tk hv st' kk => ?_
    obtain ⟨c, u, hcx, rfl⟩ := hv
    have I1 : Inv X pins σ H { s with heap := h', toks := tk } := I.turned (fun b o hb e => kk b o (by simpa using hb) e) f0 f1 f3 f4 f5
    obtain ⟨o, e, cc, d⟩ := id st'
    exact ⟨_, rfl, go_of (s := { s with heap := h', toks := tk }) e cc d (by rcases hty with rfl | rfl <;> decide) ⟨.str ⟨#[c]⟩, H, I1, ⟨u, rfl⟩, ⟨rfl, c, hcx, rfl⟩, st', fun b hb => (hf b hb).1⟩⟩
  done := by
    intro X hP hw hK hc i pins s σ H E I hf st hg
    subst hP hw hK
    obtain ⟨f0, f1, f2, f3, f4, f5⟩ := hf it (by simp)
    have hx : x.cps[i]? = none := Array.getElem?_eq_none hg
    rcases hty with rfl | rfl
    · exact wpAny_pyNext_ascii_end (I.ok.hd hc) st hx fun h' eb => ⟨rfl, I.turned (t' := s.toks) (fun b o hb e => eb b o hb e) f0 f1 f3 f4 f5⟩
    · exact wpAny_pyNext_wide_end (I.ok.hd hc) st hx fun h' eb => ⟨rfl, I.turned (t' := s.toks) (fun b o hb e => eb b o hb e) f0 f1 f3 f4 f5⟩
  self := fun _ _ _ _ _ st h => by
    rcases hty with rfl | rfl
    · exact wpAny_pyIter_striter_ascii st h
    · exact wpAny_pyIter_striter_wide st h
section
variable {X : Cx} {tg : Expr}
def iStr (tl : TE) : TI := fun σ H R => tl σ H fun x H1 => ∃ z, x = .str z ∧ R (Its z) H1
theorem pi_str {l : Expr} {tl : TE} (hl : PE X l tl) : PI X tg l (iStr tl) := by
  intro pins s σ H R I h
  refine thn (hl pins s σ H _ I h) fun v s1 ⟨x, H1, I1, r1, q1⟩ => ?_
  obtain ⟨z, e, q⟩ := q1
  subst e
  obtain ⟨t, rfl⟩ := r1
  have fp : ∀ b ∈ [s1.heap.objs.size], FpOk X pins H1 b := fun b hb => by
    have e : b = s1.heap.objs.size := by simpa using hb
    subst e
    exact I1.fpOk (Nat.le_refl _) (I1.hok.fresh (Nat.le_refl _))
  cases ha : z.cps.all (· < 128)
  · exact wpAny_pyIter_wide ha ⟨s1.heap.objs.size, [s1.heap.objs.size], _, _, H1, rfl, I1.kept (t' := s1.toks) fun b o e => Heap.get?_push_of_some _ e, turn_str _ z t (.inr rfl), ⟨_, Heap.get?_push_size _ rfl, rfl, rfl⟩, fp, q⟩
  · exact wpAny_pyIter_ascii ha ⟨s1.heap.objs.size, [s1.heap.objs.size], _, _, H1, rfl, I1.kept (t' := s1.toks) fun b o e => Heap.get?_push_of_some _ e, turn_str _ z t (.inl rfl), ⟨_, Heap.get?_push_size _ rfl, rfl, rfl⟩, fp, q⟩
end
end L3

/-! A dict of whatever keys, walked: list(d), sorted(d), for k in d. -/
namespace L3
open PySem PySem.Spec PyProof.Rows L2 PySem.W
def RawD (d : Addr) (es : Array DictEntry) (p : Nat) (h : Heap) : Prop := ∃ b, h.get? d = some b ∧ b.ExactDict ∧ b.data = .dict es p
section
variable {prog : Program} {w : World} {A : Around} {E : Value → Shared → Prop} {s : Shared} {d it : Addr} {es : Array DictEntry} {p i : Nat}
theorem RawD.ty (r : RawD d es p s.heap) : s.TypeIs (.ref d) "dict" := let ⟨b, e, x, _⟩ := r; ⟨b, e, x.1⟩
theorem RawD.at {h h' : Heap} (r : RawD d es p h) (k : ∀ o, h.get? d = some o → h'.get? d = some o) : RawD d es p h' := let ⟨b, e, x⟩ := r; ⟨b, k _ e, x⟩
theorem RawD.lt {h : Heap} (r : RawD d es p h) : d < h.objs.size := let ⟨_, e, _⟩ := r; Heap.lt_size e
theorem rd_iter {Q : Value → Shared → Prop} (lo : (d == sysModules) = false) (r : RawD d es p s.heap)
    (q : Q (.ref s.heap.objs.size) { s with heap := s.heap.push { cls := .type "dict_keyiterator", data := .fields #[.ref d, .int 0 0, .int es.size 0, .int p 0] } }) : wpAny (model prog w) A (pyIter (.ref d)) Q E s := by
  obtain ⟨b, eb, xb, db⟩ := id r
  refine wpAny_pyIter_slot r.ty PySem.F.slot_dict_iter (wpAny_call_entry PySem.F.slot_dict_iter r.ty PySem.F.entry_dict_iter ?_ (PySem.F.args_dict_iter_1 _))
  unfold Builtin.«dict.__iter__»
  refine wpAny_bind ?_
  unfold Builtin.Dict.dictSlotNone
  refine wpAny_bind (wpAny_notOrdered_dict r.ty ?_)
  show wpAny _ _ (pure (.ref d : Value)) _ _ s
  refine wpAny_pure ?_
  show wpAny _ _ (Builtin.Dict.showsAll d >>= fun _ => _) _ _ s
  unfold Builtin.Dict.showsAll
  rw [lo]
  refine wpAny_bind (wpAny_pure (wpAny_bind (wpAny_dictEntries eb db (wpAny_bind (wpAny_dictEpoch eb db ?_)))))
  exact wpAny_bind (wpAny_newObj_type (wpAny_pure ⟨_, rfl, _, _, ⟨_, Heap.get?_push_size _ rfl, rfl⟩, PySem.F.slot_dict_keyiterator_next.lookup, q⟩))
theorem rd_item {Q : Option Value → Shared → Prop} {e : DictEntry} (st : s.heap.IsKeyIter it d i es.size p) (r : RawD d es p s.heap) (hx : es[i]? = some e)
    (q : ∀ h', h'.IsKeyIter it d (i + 1) es.size p → Heap.SameBut it s.heap h' → Q (some e.key) { s with heap := h' }) : wpAny (model prog w) A (pyNext (.ref it)) Q E s := by
  obtain ⟨b, eb, cb, db⟩ := id st
  obtain ⟨c, ec, xc, dc⟩ := id r
  unfold pyNext
  refine wpAny_bind (wpAny_attempt (wpAny_callSpecial?_slot (name := Str.ofString "__next__") st.typeIs PySem.F.slot_dict_keyiterator_next (wpAny_call_entry PySem.F.slot_dict_keyiterator_next st.typeIs PySem.F.entry_dict_keyiterator_next ?_ (PySem.F.args_dict_keyiterator_next_1 _))))
  refine wpAny_bind (wpAny_pure (wpAny_bind (wpAny_bind ?_)))
  refine wpAny_bind (wpAny_typeNameOfWhole_keyiter st.typeIs (wpAny_pure (wpAny_bind (wpAny_fieldsOf eb db ?_))))
  have own : Builtin.Dict_items.ownsTuple "dict_keyiterator" = false := by decide
  simp only [own, Bool.false_eq_true, if_false]
  show wpAny _ _ (if (Value.ref d == Value.none) = true then _ else _) _ _ _
  rw [if_neg (by intro z; cases z)]
  refine wpAny_bind (wpAny_pure (wpAny_bind (wpAny_dictEntries ec dc ?_)))
  rw [if_neg (by simp)]
  refine wpAny_bind (wpAny_pure (wpAny_bind (wpAny_dictEpoch ec dc ?_)))
  rw [if_neg (by simp)]
  refine wpAny_pure ?_
  simp only [show ¬ ((i : Int) < 0) by omega, if_false, Int.toNat_natCast, hx]
  refine wpAny_bind (wpAny_bind (wpAny_typeNameOfWhole_keyiter st.typeIs (wpAny_pure ?_)))
  refine wpAny_bind (wpAny_isOneOf_keyiter st.typeIs ?_)
  show wpAny _ _ (setField (.ref it) 1 (rawInt (i + 1)) >>= _) _ _ _
  refine wpAny_bind (wpAny_setField eb db (by simp) ?_)
  have st' : (s.heap.update it (Obj.mapFields (·.setIfInBounds 1 (rawInt ((i : Int) + 1))))).IsKeyIter it d (i + 1) es.size p :=
    ⟨_, Heap.get?_update_self _ eb (Obj.isFreed_of_fields (Obj.data_mapFields db _)), (Obj.cls_mapFields ..).trans cb, by rw [Obj.data_mapFields db]; simp [rawInt]⟩
  refine wpAny_bind (wpAny_holding (wpAny_bind (wpAny_isOneOf_keyiter (s := { s with heap := _ }) st'.typeIs ?_)))
  show wpAny _ _ (pure e.key) _ _ _
  exact wpAny_pure (wpAny_pure ⟨_, rfl, wpAny_pure (q _ st' (Heap.SameBut.update ..))⟩)
theorem rd_end {Q : Option Value → Shared → Prop} (hh : A.handled = none) (st : s.heap.IsKeyIter it d i es.size p) (r : RawD d es p s.heap) (hx : es[i]? = none)
    (q : ∀ h', Heap.ExtBut it s.heap h' → Q none { s with heap := h' }) : wpAny (model prog w) A (pyNext (.ref it)) Q E s := by
  obtain ⟨b, eb, cb, db⟩ := id st
  obtain ⟨c, ec, xc, dc⟩ := id r
  unfold pyNext
  refine wpAny_bind (wpAny_attempt (wpAny_callSpecial?_slot (name := Str.ofString "__next__") st.typeIs PySem.F.slot_dict_keyiterator_next (wpAny_call_entry PySem.F.slot_dict_keyiterator_next st.typeIs PySem.F.entry_dict_keyiterator_next ?_ (PySem.F.args_dict_keyiterator_next_1 _))))
  refine wpAny_bind (wpAny_pure (wpAny_bind (wpAny_bind ?_)))
  refine wpAny_bind (wpAny_typeNameOfWhole_keyiter st.typeIs (wpAny_pure (wpAny_bind (wpAny_fieldsOf eb db ?_))))
  have own : Builtin.Dict_items.ownsTuple "dict_keyiterator" = false := by decide
  simp only [own, Bool.false_eq_true, if_false]
  show wpAny _ _ (if (Value.ref d == Value.none) = true then _ else _) _ _ _
  rw [if_neg (by intro z; cases z)]
  refine wpAny_bind (wpAny_pure (wpAny_bind (wpAny_dictEntries ec dc ?_)))
  rw [if_neg (by simp)]
  refine wpAny_bind (wpAny_pure (wpAny_bind (wpAny_dictEpoch ec dc ?_)))
  rw [if_neg (by simp)]
  refine wpAny_pure ?_
  simp only [show ¬ ((i : Int) < 0) by omega, if_false, Int.toNat_natCast, hx]
  refine wpAny_bind (wpAny_bind (wpAny_typeNameOfWhole_keyiter st.typeIs (wpAny_pure ?_)))
  show wpAny _ _ (setField (.ref it) 0 Value.none >>= _) _ _ _
  refine wpAny_bind (wpAny_setField eb db (by simp) ?_)
  show wpAny _ _ (newExc (.type "StopIteration") ([] : List Value) >>= _) _ _ _
  refine wpAny_bind ?_
  simp only [newExc, newTuple]
  refine wpAny_bind (wpAny_newObj_type (wpAny_bind (m := firstArgMember _ _) (wpAny_of_eq (a := .none) (by first | rfl | (simp only [firstArgMember]; rfl)) (wpAny_newObj_type ?_ (by size_fits)))) (by size_fits))
  simp only [raiseNew]
  refine wpAny_bind (wpAny_handled ?_)
  rw [show A.in1.handled = none from hh]
  refine wpAny_bind (wpAny_pure (wpAny_throw ?_))
  refine wpAny_bind (wpAny_isInstance (b := true) (T := "StopIteration") ⟨_, Heap.get?_push_size _ rfl, rfl⟩ isSubtype_stop ?_)
  exact wpAny_pure (q _ (((Heap.SameBut.update ..).extBut.push _).push _))
theorem rd_walks (hh : A.handled = none) (hne : d ≠ it) (es : Array DictEntry) (p : Nat) :
    Walks prog w A it [it, d] [it] es.size (fun i v => ∃ e, es[i]? = some e ∧ v = e.key) (fun i h => h.IsKeyIter it d i es.size p ∧ RawD d es p h) where
  sub := fun b hb => by simp at hb; simp [hb]
  frame := fun _ _ _ st k => ⟨st.1.at fun o e => k it (by simp) o e, st.2.at fun o e => k d (by simp) o e⟩
  item := fun i s Q E hi st q => by
    have hx : es[i]? = some es[i] := by simp [hi]
    exact rd_item st.1 st.2 hx fun h' st' sb => q _ h' s.toks ⟨_, hx, rfl⟩ ⟨st', st.2.at fun o e => sb.extBut d o hne e⟩ fun b o hb e => sb.extBut b o (fun z => hb (by simp [z])) e
  done := fun s Q E st q => rd_end hh st.1 st.2 (by simp) fun h' eb => q h' s.toks fun b o hb e => eb b o (fun z => hb (by simp [z])) e
  self := fun _ _ _ _ st q => wpAny_pyIter_keyiter st.1 q
theorem rd_src (lo : (d == sysModules) = false) : KdlSrc prog w "dict" d d es.size (fun i v => ∃ e, es[i]? = some e ∧ v = e.key) (RawD d es p) where
  type := fun _ r => r.ty
  there := fun _ r => ⟨r.lt, r.lt⟩
  keep := fun _ _ r k => r.at fun o e => k d (.inl rfl) o e
  notList := by decide
  notTuple := by decide
  hint := fun _ _ _ _ r q => kdl_hint_dict r.ty q
  iter := fun _ _ hh r => ⟨_, _, fun _ _ q => rd_iter lo r q, rd_walks hh (Nat.ne_of_lt r.lt) es p, ⟨⟨_, Heap.get?_push_size _ rfl, rfl, rfl⟩, r.at fun o e => Heap.get?_push_of_some _ e⟩⟩
end
end L3

/-! Dicts: len, list, sorted. -/
namespace L3
open PySem PySem.Spec PyProof.Rows L2 PySem.W
section
variable {prog : Program} {w : World} {A : Around} {E : Value → Shared → Prop} {s : Shared} {d : Addr} {es : Array DictEntry} {p : Nat}
theorem rd_len {Q : Value → Shared → Prop} (lo : (d == sysModules) = false) (r : RawD d es p s.heap) (z : es.size ≤ sizeLine) (q : ∀ t s', s'.heap = s.heap → s' = { s with toks := s'.toks } → Q (.int es.size t) s') : wpAny (model prog w) A (call (.builtin "len") [.ref d]) Q E s := by
  have zz : es.size ≤ 16777216 := by rw [sizeLine_eq] at z; exact z
  have mt : MeetsIn prog w (Builtin.«dict.__len__» ⟨[.ref d], []⟩) (fun _ R s => RawD d es p s.heap ∧ R (.ok (.ret (.int es.size s.toks))) { s with toks := s.toks + 1 }) := .of_wp fun A R s ⟨r, h⟩ => by
    obtain ⟨b, eb, xb, db⟩ := r
    show wpAny _ _ (dictSize d >>= fun _ => _) _ _ s
    unfold dictSize
    refine wpAny_bind (wpAny_bind (wpAny_dictEntries eb db (wpAny_pure ?_)))
    show wpAny _ _ (Builtin.Dict.pendingCount d >>= fun _ => _) _ _ s
    exact wpAny_bind (wpAny_pendingCount_other lo (wpAny_ret_mkInt h))
  refine Calls.call_function_entry kind_len plain_len entry_len (args_len1 _) ?_
  unfold Builtin.«len»
  refine wpAny_bind (m := oneArg "len" _) (wpAny_pure ?_)
  refine wpAny_bind (m := callSpecial? (.ref d) (Str.ofString "__len__")) (wpAny_callSpecial?_slot (name := Str.ofString "__len__") r.ty PySem.F.slot_dict_len
    (call_meetsIn PySem.F.slot_dict_len r.ty PySem.F.entry_dict_len (PySem.F.args_dict_len_1 _) mt ⟨r, ?_⟩))
  refine wpAny_bind (wpAny_holding (wpAny_pure (wpAny_bind (wpAny_letGo ?_))))
  show wpAny _ _ (if ((es.size : Nat) : Int) < 0 then _ else _) _ _ _
  rw [if_neg (by omega)]
  show wpAny _ _ (if ((es.size : Nat) : Int) ≥ 2 ^ 63 then _ else _) _ _ _
  rw [if_neg (by omega)]
  exact wpAny_bind (wpAny_mkInt (wpAny_pure ⟨_, rfl, q _ _ rfl rfl⟩))
theorem rd_collect {R : List Value → Shared → Prop} (hh : A.handled = none) (lo : (d == sysModules) = false) (r : RawD d es p s.heap) (z : es.size ≤ sizeLine)
    (q : ∀ (h' : Heap) (tk : Nat) (acc : Array Value), s.heap.objs.size < h'.objs.size → (∀ b o, s.heap.get? b = some o → h'.get? b = some o) → ItemsOf (fun i v => ∃ e, es[i]? = some e ∧ v = e.key) acc es.size → R acc.toList { s with heap := h', toks := tk }) :
    wpAny (model prog w) A (collect (.ref d)) R E s := by
  have lt := r.lt
  unfold collect
  refine wpAny_bind (wpAny_runValue (codeAny_builtin entry_proto_collect' ?_))
  rw [Around.under_plainId PySem.F.plain_proto_collect]
  show wpAny _ A.in1 (newList ([] : List Value) >>= fun l => again (.builtin "list.__iadd__" ⟨[l, .ref d], []⟩)) _ _ _
  refine wpAny_bind (wpAny_newObj_type (wpAny_pure ⟨plainId_quiet PySem.F.plain_list_iadd _, codeAny_builtin entry_list_iadd' ?_⟩))
  rw [Around.under_plainId PySem.F.plain_list_iadd]
  have l0 : (s.heap.push { cls := .type "list", data := .seq ([] : List Value).toArray }).get? s.heap.objs.size = some { cls := .type "list", data := .seq #[] } := Heap.get?_push_size _ rfl
  show wpAny _ A.in1 (Builtin.List.listExtendWith (.ref s.heap.objs.size) (.ref d) (.ref s.heap.objs.size)) _ _ _
  have go := kdl_extend (prog := prog) (w := w) (A := A) (s := { s with heap := s.heap.push { cls := .type "list", data := .seq ([] : List Value).toArray } })
    (R := fun (x : Result) (s2 : Shared) => ∃ (h2 : Heap) (tk : Nat) (ac : Array Value) (c2 : Nat), x = .ok (.ret (.ref s.heap.objs.size)) ∧ s2 = { s with heap := h2, toks := tk } ∧ (∀ b o, s.heap.get? b = some o → h2.get? b = some o) ∧
      h2.get? s.heap.objs.size = some { cls := .type "list", dict := none, data := .seq ac c2, slots := #[] } ∧ ItemsOf (fun i v => ∃ e, es[i]? = some e ∧ v = e.key) ac es.size)
    (rd_src (p := p) lo) hh (r.at fun o e => Heap.get?_push_of_some _ e) s.heap.objs.size (Nat.ne_of_gt lt) (Nat.ne_of_gt lt) (.ref s.heap.objs.size) 0 l0
    (fun h2 tk ac c2 k e i => ⟨h2, tk, ac, c2, rfl, rfl, fun b o x => k b o (Nat.ne_of_lt (Heap.lt_size x)) (Heap.get?_push_of_some _ x), e, i⟩) z
  have fin : ∀ {h2 : Heap} {tk : Nat} {ac : Array Value} {c2 : Nat}, (∀ b o, s.heap.get? b = some o → h2.get? b = some o) → h2.get? s.heap.objs.size = some { cls := .type "list", dict := none, data := .seq ac c2, slots := #[] } →
      ItemsOf (fun i v => ∃ e, es[i]? = some e ∧ v = e.key) ac es.size → R ac.toList { s with heap := h2, toks := tk } := fun {h2 tk ac c2} k e i => q h2 tk ac (Heap.lt_size e) k i
  refine wpAny_mono go (fun fn s2 x => ?_) fun e s2 x => ?_
  · cases fn with
    | done f =>
      obtain ⟨h2, tk, ac, c2, e, rfl, k, y, i⟩ := x
      cases e
      show wpAny _ A (load s.heap.objs.size >>= fun _ => _) _ _ _
      exact wpAny_bind (wpAny_load y (wpAny_pure (fin k y i)))
    | again c1 =>
      refine ⟨x.1, codeAny_mono x.2 fun r2 s3 y => ?_⟩
      obtain ⟨h2, tk, ac, c2, rfl, rfl, k, y, i⟩ := y
      show wpAny _ A (load s.heap.objs.size >>= fun _ => _) _ _ _
      exact wpAny_bind (wpAny_load y (wpAny_pure (fin k y i)))
  · obtain ⟨_, _, _, _, x, _⟩ := x
    cases x
end
end L3

/-! Dicts in calls: len(d), list(d), sorted(d). -/
namespace L3
open PySem PySem.Spec PyProof.Rows L2 PySem.W
theorem paired_at {α β : Type} {F : α → β → Prop} : ∀ {l : List α} {m : List β} {i : Nat} {a : α}, Paired F l m → l[i]? = some a → ∃ b, m[i]? = some b ∧ F a b
  | _, _, _, _, .nil, e => by simp at e
  | _, _, 0, _, .cons r _, e => by simp at e; subst e; exact ⟨_, rfl, r⟩
  | _, _, i + 1, a, .cons _ t, e => by
    obtain ⟨b, h1, h2⟩ := paired_at (i := i) (a := a) t (by simpa using e)
    exact ⟨b, by simpa using h1, h2⟩
theorem vals_by {ys : List V} {us : List Value} (hl : us.length = ys.length) (h : ∀ (i : Nat) (u : Value) (y : V), us[i]? = some u → ys[i]? = some y → RelV y u) : Vals ys us := by
  induction ys generalizing us with
  | nil => cases us with | nil => exact .nil | cons _ _ => cases hl
  | cons y ys ih =>
    cases us with
    | nil => cases hl
    | cons u us => exact .cons (h 0 u y rfl rfl) (ih (Nat.succ.inj hl) fun i u' y' e1 e2 => h (i + 1) u' y' (by simpa using e1) (by simpa using e2))
section
variable {X : Cx} {pins : List (Addr × Obj)} {σ : L2.St} {H : Hp} {s : Shared} {a : Addr}
theorem raw_k {kvs : List (Key × V)} (I : Inv X pins σ H s) (e : H a = some (.dK kvs)) : kvs.length ≤ sizeLine ∧ (a == sysModules) = false ∧ ∃ es p, RawD a es p s.heap ∧ es.size = kvs.length ∧ ∀ (i : Nat) (x : DictEntry) (kv : Key × V), es[i]? = some x → kvs[i]? = some kv → RelV (kV kv.1) x.key := by
  obtain ⟨z, lo, vs, r, o, es, p, h1, h2, h3, h4, h5, h6⟩ := (show ObjOk X.prog X.w H s.heap a (.dK kvs) from I.hok a _ e)
  have hsz : es.size = kvs.length := by rw [r.length, ← h5.length]; simp
  refine ⟨z, lo, es, p, ⟨o, h1, h2, h3⟩, hsz, fun i x kv ex ek => ?_⟩
  obtain ⟨q, hq, ⟨e1, _⟩⟩ := paired_at r ek
  have hk := (h5.get? (i := i) (e := x) (k := q.1) (v := q.2) (by rw [Array.getElem?_toList]; exact ex) hq).1
  rw [e1]
  rcases keyIs_shape hk with ⟨n, t, h7, h8⟩ | ⟨n, t, h7, h8⟩
  · rw [h7, h8]; exact ⟨t, rfl⟩
  · rw [h7, h8]; exact ⟨t, rfl⟩
theorem raw_t {kvs : List (List Key × V)} (I : Inv X pins σ H s) (e : H a = some (.dT kvs)) : kvs.length ≤ sizeLine ∧ (a == sysModules) = false ∧ ∃ es p, RawD a es p s.heap ∧ es.size = kvs.length ∧
    ∃ bs : List Addr, Paired (fun (kv : List Key × V) b => H b = some (.tup (kv.1.map kV))) kvs bs ∧ ∀ (i : Nat) (x : DictEntry) (b : Addr), es[i]? = some x → bs[i]? = some b → x.key = .ref b := by
  obtain ⟨z, lo, xs, r, o, es, p, h1, h2, h3, h4, h9⟩ := (show ObjOk X.prog X.w H s.heap a (.dT kvs) from I.hok a _ e)
  have hsz : es.size = kvs.length := by rw [Paired.length r, ← Array.length_toList, h4, List.length_map]
  refine ⟨z, lo, es, p, ⟨o, h1, h2, h3⟩, hsz, xs.map (·.2.1), ?_, fun i x b ex eb => ?_⟩
  · clear h4 h9 hsz z e
    induction r with
    | nil => exact .nil
    | cons q _ ih => exact .cons q.2.1 ih
  · rw [← Array.getElem?_toList, h4, List.getElem?_map] at ex
    rw [List.getElem?_map] at eb
    cases hx : xs[i]? with
    | none => rw [hx] at eb; cases eb
    | some q =>
      rw [hx] at ex eb
      cases ex
      cases eb
      rfl
def DLen (H : Hp) (a : Addr) (n : Nat) : Prop := (∃ kvs, H a = some (.dK kvs) ∧ n = kvs.length) ∨ ∃ kvs, H a = some (.dT kvs) ∧ n = kvs.length
theorem call_len_d : CallR X (.builtin "len") (fun xs H Q => ∃ a n, xs = [.ref a] ∧ DLen H a n ∧ Q (.int n) H) := by
  intro pins s σ H xs us Q I r h
  obtain ⟨a, n, rfl, hd, q⟩ := h
  obtain ⟨u, rfl, ru⟩ := vals1 r
  cases ru
  rcases hd with ⟨kvs, e, rfl⟩ | ⟨kvs, e, rfl⟩
  · obtain ⟨z, lo, es, p, rr, hs, _⟩ := raw_k I e
    refine rd_len lo rr (by rw [hs]; exact z) fun t s' _ e' => ?_
    rw [e', hs]
    exact ⟨.int kvs.length, H, I.tok _, ⟨t, rfl⟩, q⟩
  · obtain ⟨z, lo, es, p, rr, hs, _⟩ := raw_t I e
    refine rd_len lo rr (by rw [hs]; exact z) fun t s' _ e' => ?_
    rw [e', hs]
    exact ⟨.int kvs.length, H, I.tok _, ⟨t, rfl⟩, q⟩
def rListD : List V → Hp → VK → Prop := fun xs H Q => ∃ a, xs = [.ref a] ∧
  ((∃ kvs, H a = some (.dK kvs) ∧ ∀ l, H l = none → Q (.ref l) (upd H l (.lst (kvs.map fun kv => kV kv.1)))) ∨
   ∃ kvs, H a = some (.dT kvs) ∧ ∀ (bs : List Addr) l, Paired (fun (kv : List Key × V) b => H b = some (.tup (kv.1.map kV))) kvs bs → H l = none → Q (.ref l) (upd H l (.lst (bs.map V.ref))))
theorem call_list_d (hc : X.calm = true) : CallR X (.type "list") rListD := by
  intro pins s σ H xs us Q I r h
  obtain ⟨a, rfl, h⟩ := h
  obtain ⟨u, rfl, ru⟩ := vals1 r
  cases ru
  have fin : ∀ (ys : List V) (es : Array DictEntry) (h' : Heap) (tk : Nat) (acc : Array Value) (c : Nat), ys.length ≤ sizeLine → es.size = ys.length → (∀ (i : Nat) (x : DictEntry) (y : V), es[i]? = some x → ys[i]? = some y → RelV y x.key) →
      (∀ b o, s.heap.get? b = some o → h'.get? b = some o) → h'.get? s.heap.objs.size = some { cls := .type "list", dict := none, data := .seq acc c, slots := #[] } → ItemsOf (fun i v => ∃ e, es[i]? = some e ∧ v = e.key) acc es.size →
      (∀ l, H l = none → Q (.ref l) (upd H l (.lst ys))) → EP X pins σ Q (.ref s.heap.objs.size) { s with heap := h', toks := tk } := fun ys es h' tk acc c z hs hr kp e it q => by
    refine ⟨.ref s.heap.objs.size, _, I.laid (t' := tk) (o := .lst ys) kp (Nat.le_refl _) ⟨z, acc.toList, c, vals_by (by rw [Array.length_toList, it.1, hs]) fun i u y e1 e2 => ?_, ?_⟩, rfl, q _ (I.hok.fresh (Nat.le_refl _))⟩
    · obtain ⟨x, ex, rfl⟩ := it.2 i u (by rw [← Array.getElem?_toList]; exact e1)
      exact hr i x y ex e2
    · rw [Array.toArray_toList]; exact e
  rcases h with ⟨kvs, e, q⟩ | ⟨kvs, e, q⟩
  · obtain ⟨z, lo, es, p, rr, hs, hr⟩ := raw_k I e
    refine kdl_call (rd_src (p := p) lo) (I.ok.hd hc) rr (by rw [hs]; exact z) fun h' tk acc c kp e' it => fin _ es h' tk acc c (by rw [List.length_map]; exact z) (by rw [List.length_map]; exact hs) (fun i x y ex ey => ?_) kp e' it q
    rw [List.getElem?_map] at ey
    cases hk : kvs[i]? with
    | none => rw [hk] at ey; cases ey
    | some kv => rw [hk] at ey; cases ey; exact hr i x kv ex hk
  · obtain ⟨z, lo, es, p, rr, hs, bs, pb, hr⟩ := raw_t I e
    have hb := Paired.length pb
    refine kdl_call (rd_src (p := p) lo) (I.ok.hd hc) rr (by rw [hs]; exact z) fun h' tk acc c kp e' it => fin _ es h' tk acc c (by rw [List.length_map, ← hb]; exact z) (by rw [List.length_map, ← hb]; exact hs) (fun i x y ex ey => ?_) kp e' it fun l hl => q bs l pb hl
    rw [List.getElem?_map] at ey
    cases hk : bs[i]? with
    | none => rw [hk] at ey; cases ey
    | some b => rw [hk] at ey; cases ey; exact hr i x b ex hk
theorem vals_of_strs : ∀ {vs : List Value} {ss : List Str}, StrsAre vs ss → Vals (ss.map V.str) vs
  | _, _, .nil => .nil
  | _, _, .cons x t r => .cons ⟨t, rfl⟩ (vals_of_strs r)
theorem strs_of_vals : ∀ {vs : List Value} {ss : List Str}, Vals (ss.map V.str) vs → StrsAre vs ss
  | _, [], r => by cases r; exact .nil
  | _, x :: ss, r => by
    cases r with
    | cons r1 r2 =>
      obtain ⟨t, rfl⟩ := r1
      exact .cons x t (strs_of_vals r2)
end
end L3
namespace L3
open PySem PySem.Spec PyProof.Rows L2
theorem bt_sorted : bootBuiltins "sorted" = some (.builtin "sorted") := by decide +kernel
theorem for_str {x : Str} {g : TG} {tb : TS} {D : Ends} {σ : L2.St} {H : Hp} (Pv : Nat → L2.St → Hp → Prop) (h0 : Pv 0 σ H)
    (hs : ∀ i c σ H, x.cps.toList[i]? = some c → Pv i σ H → g (.str ⟨#[c]⟩) σ H fun σ2 H2 => tb { D with nx := Pv (i + 1), ct := Pv (i + 1), bk := D.nx } σ2 H2) (hd : ∀ σ H, Pv x.cps.toList.length σ H → D.nx σ H) :
    ∃ W : Nat → Nat → L2.St → Hp → Prop, (∃ m, W 0 m σ H) ∧ ∀ i m σ H, W i m σ H →
      ((Its x).stop i H ∧ D.nx σ H) ∨ ((Its x).go i H ∧ ∃ N : L2.St → Hp → Prop, (∀ σ' H', N σ' H' → ∃ m', m' < m ∧ W (i + 1) m' σ' H') ∧ ∀ v H', (Its x).yld i H v H' → g v σ H' fun σ2 H2 => tb { D with nx := N, ct := N, bk := D.nx } σ2 H2) := by
  refine ⟨fun i m σ H => m = x.cps.size - i ∧ i ≤ x.cps.size ∧ Pv i σ H, ⟨x.cps.size, by simp, Nat.zero_le _, h0⟩, ?_⟩
  rintro i m σ H ⟨rfl, hi, p⟩
  by_cases c : i < x.cps.size
  · refine .inr ⟨c, Pv (i + 1), fun σ' H' p' => ⟨x.cps.size - (i + 1), by omega, rfl, c, p'⟩, fun v H' y => ?_⟩
    obtain ⟨rfl, k, hk, rfl⟩ := y
    exact hs i k σ _ (by rw [Array.getElem?_toList]; exact hk) p
  · have e : i = x.cps.toList.length := by rw [Array.length_toList]; omega
    refine .inl ⟨Nat.le_of_not_lt c, hd σ H (e ▸ p)⟩
end L3

/-! for over enumerate of a list, with a pair of names as the target. -/
namespace L3
open PySem PySem.Spec PyProof.Rows L2
section
variable {X : Cx} {pins : List (Addr × Obj)} {σ : List (Option V)} {H : Hp} {s : Shared} {h' : Heap}
end
section
variable {X : Cx}
end
end L3

/-! for over a dict's keys: the dict is held as it stands. -/
namespace L3
open PySem PySem.Spec PyProof.Rows L2
section
variable {X : Cx} {pins : List (Addr × Obj)} {σ : List (Option V)} {H : Hp} {s : Shared}
end
section
variable {X : Cx} {tg : Expr}
end
end L3

/-! for over d.items(), with a pair of names as the target: the dict is held as it stands. -/
namespace L3
open PySem PySem.Spec PyProof.Rows L2
section
variable {X : Cx}
end
end L3

/-! The pairs of a dict of whatever keys, walked: d.items() of a dict with tuples as keys; comprehensions over pairs. -/
namespace L3
open PySem PySem.Spec PyProof.Rows L2 PySem.W
section
variable {prog : Program} {w : World} {A : Around} {E : Value → Shared → Prop} {s : Shared} {d it : Addr} {es : Array DictEntry} {p i : Nat}
end
section
variable {X : Cx} {pins : List (Addr × Obj)} {σ : List (Option V)} {H : Hp} {s : Shared}
theorem hold_t {a : Addr} {kvs : List (List Key × V)} (I : Inv X pins σ H s) (e : H a = some (.dT kvs)) : ∃ o, s.heap.get? a = some o ∧ Inv X pins σ (upd H a (.frz o (.dT kvs))) s := by
  have x := (show ObjOk X.prog X.w H s.heap a (.dT kvs) from I.hok a _ e)
  obtain ⟨z, lo, xs, r, o, es, p, h1, h2⟩ := id x
  refine ⟨o, h1, ?_⟩
  have ne : ∀ c ys, H c = some (.tup ys) → c ≠ a := fun c ys ec hz => by rw [hz, e] at ec; cases ec
  exact I.write (x := a) (e := a) (h' := s.heap) (t' := s.toks) (o := .frz o (.dT kvs)) (by rw [e]; trivial) (.inl rfl) (fun b u _ q => q) ⟨o, h1⟩ ⟨h1, z, lo, xs, paired_mono (fun _ _ q => ⟨q.1, (upd_ne (ne _ _ q.2.1)).trans q.2.1, q.2.2⟩) r, o, es, p, h1, h2⟩
end
def Itt (d : Addr) (o : Obj) : It :=
  ⟨fun i H => ∃ kvs kv, H d = some (.frz o (.dT kvs)) ∧ kvs[i]? = some kv, fun i H x H' => ∃ p b k y, H p = none ∧ x = .ref p ∧ H b = some (.tup (k.map kV)) ∧ H' = upd H p (.tup [.ref b, y]) ∧ ∀ kvs, H d = some (.frz o (.dT kvs)) → kvs[i]? = some (k, y), fun i H => ∃ kvs, H d = some (.frz o (.dT kvs)) ∧ kvs.length ≤ i⟩
theorem frzT_inj {H : Hp} {d : Addr} {o : Obj} {a b : List (List Key × V)} (h1 : H d = some (.frz o (.dT a))) (h2 : H d = some (.frz o (.dT b))) : a = b := by
  rw [h1] at h2; injection h2 with h2; injection h2 with _ h2; injection h2
section
variable {X : Cx}
end
end L3

/-! for over the keys of a dict with tuples as keys; sorted of a dict of any number of texts. -/
namespace L3
open PySem PySem.Spec PyProof.Rows L2 PySem.W
def Itkt (d : Addr) (o : Obj) : It :=
  ⟨fun i H => ∃ kvs kv, H d = some (.frz o (.dT kvs)) ∧ kvs[i]? = some kv, fun i H x H' => H' = H ∧ ∀ kvs, H d = some (.frz o (.dT kvs)) → ∃ kv b, kvs[i]? = some kv ∧ x = .ref b ∧ H b = some (.tup (kv.1.map kV)), fun i H => ∃ kvs, H d = some (.frz o (.dT kvs)) ∧ kvs.length ≤ i⟩
theorem turn_tkeys {P : Program} {w : World} {K : PySem.W.Frag} {tg : Expr} {d it : Addr} {o : Obj} {es : Array DictEntry} {ep : Nat} (ho : o.data = .dict es ep) :
    Turn P w K tg (Itkt d o) [it] it (fun i h => h.IsKeyIter it d i es.size ep) where
  mem := by simp
  obj := by
    rintro i h ⟨q, e1, c, d⟩ b hb
    have hb : b = it := by simpa using hb
    subst hb
    exact ⟨q, e1, fun v z => by rw [d] at z; cases z⟩
  keep := by
    rintro i h h' ⟨q, e1, r⟩ k
    exact ⟨q, k it (by simp) q e1, r⟩
  item := by
    intro X hP hw hK hc i pins s σ H E I hf st hg
    subst hP hw hK
    obtain ⟨kvs, kv, e, hx⟩ := hg
    obtain ⟨g1, z, lo, xs, r, o', es', ep', h1, h2, h3, h4, h5⟩ := (show ObjOk X.prog X.w H s.heap d (.frz o (.dT kvs)) from I.hok d _ e)
    have eo : o' = o := by rw [h1] at g1; injection g1
    subst eo
    rw [h3] at ho
    injection ho with e1 e2
    subst e1; subst e2
    obtain ⟨q, hq, k1, k2, rv⟩ := paired_at r hx
    obtain ⟨f0, f1, f2, f3, f4, f5⟩ := hf it (by simp)
    have hen : es'[i]? = some (entryOfKey (tupleKind (mixKind X.prog X.w)) q) := by rw [← Array.getElem?_toList, h4, List.getElem?_map, hq]; rfl
    refine rd_item st ⟨o', h1, h2, h3⟩ hen fun h' st' sb => ?_
    have I1 : Inv X pins σ H { s with heap := h' } := I.turned (t' := s.toks) (fun b u hb e => (sb.2 b hb).trans e) f0 f1 f3 f4 f5
    obtain ⟨q2, e2, c2, d2⟩ := id st'
    exact ⟨.ref q.2.1, rfl, go_of (s := { s with heap := h' }) e2 c2 d2 (by decide) ⟨.ref q.2.1, H, I1, rfl, ⟨rfl, fun ws hw => ⟨kv, q.2.1, by rw [frzT_inj hw e]; exact hx, rfl, k2⟩⟩, st', fun b hb => (hf b hb).1⟩⟩
  done := by
    intro X hP hw hK hc i pins s σ H E I hf st hg
    subst hP hw hK
    obtain ⟨kvs, e, hx⟩ := hg
    obtain ⟨g1, z, lo, xs, r, o', es', ep', h1, h2, h3, h4, h5⟩ := (show ObjOk X.prog X.w H s.heap d (.frz o (.dT kvs)) from I.hok d _ e)
    have eo : o' = o := by rw [h1] at g1; injection g1
    subst eo
    rw [h3] at ho
    injection ho with e1 e2
    subst e1; subst e2
    have hsz : es'.size = kvs.length := by rw [Paired.length r, ← Array.length_toList, h4, List.length_map]
    obtain ⟨f0, f1, f2, f3, f4, f5⟩ := hf it (by simp)
    exact rd_end (I.ok.hd hc) st ⟨o', h1, h2, h3⟩ (Array.getElem?_eq_none (by omega)) fun h' eb => ⟨rfl, I.turned (t' := s.toks) (fun b u hb q => eb b u hb q) f0 f1 f3 f4 f5⟩
  self := fun _ _ _ _ _ st h => wpAny_pyIter_keyiter st h
section
variable {X : Cx} {tg : Expr}
def iTkeys (tl : TE) : TI := fun σ H R => tl σ H fun x H1 => ∃ d kvs, x = .ref d ∧ H1 d = some (.dT kvs) ∧ ∀ o, R (Itkt d o) (upd H1 d (.frz o (.dT kvs)))
theorem pi_tkeys {l : Expr} {tl : TE} (hl : PE X l tl) : PI X tg l (iTkeys tl) := by
  intro pins s σ H R I h
  refine thn (hl pins s σ H _ I h) fun v s1 ⟨x, H1, I1, r1, q1⟩ => ?_
  obtain ⟨d, kvs, e, hd, q⟩ := q1
  subst e
  cases r1
  obtain ⟨o, h0, I2⟩ := hold_t I1 hd
  obtain ⟨z, lo, xs, r, o', es, ep, h1, h2, h3, h4, h5⟩ := (show ObjOk X.prog X.w H1 s1.heap d (.dT kvs) from I1.hok d _ hd)
  have eo : o' = o := by rw [h1] at h0; injection h0
  subst eo
  refine rd_iter lo ⟨o', h1, h2, h3⟩ ?_
  refine ⟨s1.heap.objs.size, [s1.heap.objs.size], _, _, _, rfl, I2.kept (t' := s1.toks) fun b u e => Heap.get?_push_of_some _ e, turn_tkeys h3, ⟨_, Heap.get?_push_size _ rfl, rfl, rfl⟩, fun b hb => ?_, q o'⟩
  have e : b = s1.heap.objs.size := by simpa using hb
  subst e
  exact I2.fpOk (Nat.le_refl _) (I2.hok.fresh (Nat.le_refl _))
end
theorem for_tkeys {d : Addr} {o : Obj} {kvs : List (List Key × V)} {g : TG} {tb : TS} {D : Ends} {σ : L2.St} {H : Hp} (Pv : Nat → L2.St → Hp → Prop) (h0 : Pv 0 σ H) (hl : ∀ i σ H, i ≤ kvs.length → Pv i σ H → H d = some (.frz o (.dT kvs)))
    (hs : ∀ i k y b σ H, kvs[i]? = some (k, y) → Pv i σ H → H b = some (.tup (k.map kV)) → g (.ref b) σ H fun σ2 H2 => tb { D with nx := Pv (i + 1), ct := Pv (i + 1), bk := D.nx } σ2 H2) (hd : ∀ σ H, Pv kvs.length σ H → D.nx σ H) :
    ∃ W : Nat → Nat → L2.St → Hp → Prop, (∃ m, W 0 m σ H) ∧ ∀ i m σ H, W i m σ H →
      ((Itkt d o).stop i H ∧ D.nx σ H) ∨ ((Itkt d o).go i H ∧ ∃ N : L2.St → Hp → Prop, (∀ σ' H', N σ' H' → ∃ m', m' < m ∧ W (i + 1) m' σ' H') ∧ ∀ x H', (Itkt d o).yld i H x H' → g x σ H' fun σ2 H2 => tb { D with nx := N, ct := N, bk := D.nx } σ2 H2) := by
  refine ⟨fun i m σ H => m = kvs.length - i ∧ i ≤ kvs.length ∧ Pv i σ H, ⟨kvs.length, rfl, Nat.zero_le _, h0⟩, ?_⟩
  rintro i m σ H ⟨rfl, hi, p⟩
  have q := hl i σ H hi p
  by_cases hlt : i < kvs.length
  · refine .inr ⟨⟨kvs, kvs[i], q, List.getElem?_eq_getElem hlt⟩, Pv (i + 1), fun σ' H' p' => ⟨kvs.length - (i + 1), by omega, rfl, hlt, p'⟩, fun x H' y => ?_⟩
    obtain ⟨rfl, y⟩ := y
    obtain ⟨⟨k, z⟩, b, hk, rfl, hb⟩ := y kvs q
    exact hs i k z b σ _ hk p hb
  · have e : i = kvs.length := by omega
    subst e
    exact .inl ⟨⟨kvs, q, Nat.le_refl _⟩, hd σ H p⟩
section
variable {prog : Program} {w : World} {A : Around} {E : Value → Shared → Prop} {s : Shared} {d : Addr} {es : Array DictEntry} {p : Nat}
theorem rd_sortG {Q : Value → Shared → Prop} {ss : List Str} (hh : A.handled = none) (lo : (d == sysModules) = false) (r : RawD d es p s.heap) (hn : es.size ≤ sizeLine) (hs : ∀ vs : List Value, vs.length = es.size → (∀ (j : Nat) (v : Value), vs[j]? = some v → ∃ e, es[j]? = some e ∧ v = e.key) → StrsAre vs ss)
    (q : ∀ (D : Addr) (h' : Heap) (tk : Nat) (out : List Value) (ss' : List Str) (c : Nat), s.heap.objs.size ≤ D → (∀ b o, s.heap.get? b = some o → h'.get? b = some o) → h'.get? D = some (seqObj "list" out.toArray c) → StrsAre out ss' → ss'.Perm ss → ss'.Pairwise leT → Q (.ref D) { s with heap := h', toks := tk }) :
    wpAny (model prog w) A (call (.builtin "sorted") [.ref d]) Q E s := by
  refine Calls.call_function_entry kind_sorted plain_sorted entry_sorted (args_sorted1 _) ?_
  unfold Builtin.«sorted»
  refine wpAny_bind (m := checkCount "sorted" 1 1 _) (wpAny_pure ?_)
  refine wpAny_bind (rd_collect (A := A.in1) hh lo r hn fun h' tk acc hsz hk hacc => ?_)
  have hl : acc.toList.length = es.size := by rw [Array.length_toList]; exact hacc.1
  have hS : StrsAre acc.toList ss := hs _ hl fun j v e => hacc.2 j v (by rw [← Array.getElem?_toList]; exact e)
  refine wpAny_bind (wpAny_newList ?_ (by rw [hl]; exact hn))
  have hoL : (h'.push (seqObj "list" acc.toList.toArray 0)).get? h'.objs.size = some (seqObj "list" acc.toList.toArray 0) := Heap.get?_push_size _ rfl
  refine wpAny_bind (wpAny_holding (wpAny_call_entry slot_list_sort ⟨_, hoL, rfl⟩ entry_list_sort (sort_any strKind_oneLt hoL hS.keysOf (fun v₁ v₂ rest e => keyKind_strs (by rw [← e]; exact hS)) (by rw [hl]; exact hn) fun st' a1 a2 => ⟨_, rfl, ?_⟩) (args_list_sort _)))
  obtain ⟨ss', b1, b2, b3⟩ := sort_out hS a1 a2
  obtain ⟨c, hc⟩ := sortedHeap_at (out := (arrOf st').map (·.2)) hoL
  refine wpAny_pure ⟨_, rfl, q h'.objs.size _ tk ((arrOf st').map (·.2)).toList ss' c (Nat.le_of_lt hsz) (fun b o e => ?_) ?_ b1 b2 b3⟩
  · have e' := hk b o e
    have hlt := Heap.lt_size e'
    rw [sortedHeap_old (Nat.ne_of_lt hlt) (by rw [size_push']; exact Nat.lt_succ_of_lt hlt)]
    exact Heap.get?_push_of_some _ e'
  · rw [Array.toArray_toList]; exact hc
end
section
variable {X : Cx}
def rSortT : List V → Hp → VK → Prop := fun xs H Q => ∃ (a : Addr) (kvs : List (Key × V)) (ss : List Str), xs = [.ref a] ∧ H a = some (.dK kvs) ∧ kvs.map (fun kv => kV kv.1) = ss.map V.str ∧ ∀ (l : Addr) (ss' : List Str), ss'.Perm ss → ss'.Pairwise leT → H l = none → Q (.ref l) (upd H l (.lst (ss'.map V.str)))
theorem call_sorted_t (hc : X.calm = true) : CallR X (.builtin "sorted") rSortT := by
  intro pins s σ H xs us Q I r h
  obtain ⟨a, kvs, ss, rfl, e, hk, q⟩ := h
  obtain ⟨u, rfl, ru⟩ := vals1 r
  cases ru
  obtain ⟨z, lo, es, p, rr, hs, hr⟩ := raw_k I e
  refine rd_sortG (ss := ss) (I.ok.hd hc) lo rr (by rw [hs]; exact z) (fun vs hl hv => strs_of_vals ?_) fun D h' tk out ss' c hD kp e' so hp hss => ?_
  · rw [← hk]
    refine vals_by (by rw [hl, List.length_map]; exact hs) fun i u y e1 e2 => ?_
    obtain ⟨x, ex, rfl⟩ := hv i u e1
    rw [List.getElem?_map] at e2
    cases hi : kvs[i]? with
    | none => rw [hi] at e2; cases e2
    | some kv => rw [hi] at e2; cases e2; exact hr i x kv ex hi
  · have hn : H D = none := I.hok.fresh hD
    have hl : ss'.length ≤ sizeLine := by
      have h2 := congrArg List.length hk
      rw [List.length_map, List.length_map] at h2
      rw [hp.length_eq, ← h2]; exact z
    exact ⟨.ref D, _, I.laid (t' := tk) (o := .lst (ss'.map V.str)) kp hD ⟨by rw [List.length_map]; exact hl, out, c, vals_of_strs so, e'⟩, rfl, q D ss' hp hss hn⟩
end
end L3

/-! sorted of a list of any number of texts. -/
namespace L3
open PySem PySem.Spec PyProof.Rows L2 PySem.W
section
variable {prog : Program} {w : World} {A : Around} {E : Value → Shared → Prop} {s : Shared}
theorem sortedG {l : Addr} {vs : List Value} {ss : List Str} {Q : Value → Shared → Prop} (hl : s.heap.IsList l vs.toArray) (hS : StrsAre vs ss) (hz : vs.length ≤ sizeLine)
    (h : ∀ (out : Array Value) (ss' : List Str), StrsAre out.toList ss' → ss'.Perm ss → ss'.Pairwise leT → Q (.ref (s.heap.objs.size + 1)) { s with heap := sortedAll s.heap vs out }) :
    wpAny (model prog w) A (call (.builtin "sorted") [.ref l]) Q E s := by
  refine Calls.call_function_entry kind_sorted plain_sorted entry_sorted (args_sorted1 _) ?_
  unfold Builtin.«sorted»
  refine wpAny_bind (m := checkCount "sorted" 1 1 _) (wpAny_pure ?_)
  refine wpAny_bind (collect_list hl ?_)
  refine wpAny_bind (wpAny_newList ?_ hz)
  have hsz : ((s.heap.push (seqObj "list" #[] 0)).update s.heap.objs.size (Obj.mapSeq (· ++ vs.toArray))).objs.size = s.heap.objs.size + 1 := by
    rw [Heap.size_update, size_push']
  have hoL : (((s.heap.push (seqObj "list" #[] 0)).update s.heap.objs.size (Obj.mapSeq (· ++ vs.toArray))).push (seqObj "list" vs.toArray 0)).get? (s.heap.objs.size + 1) = some (seqObj "list" vs.toArray 0) := by
    rw [← hsz]; exact Heap.get?_push_size _ rfl
  show wpAny _ _ _ _ _ { s with heap := ((s.heap.push (seqObj "list" #[] 0)).update s.heap.objs.size (Obj.mapSeq (· ++ vs.toArray))).push (seqObj "list" vs.toArray 0) }
  rw [hsz]
  refine wpAny_bind (wpAny_holding (wpAny_call_entry slot_list_sort ⟨_, hoL, rfl⟩ entry_list_sort (sort_any strKind_oneLt hoL hS.keysOf (fun v₁ v₂ rest e => keyKind_strs (by rw [← e]; exact hS)) hz fun st' a1 a2 => ⟨_, rfl, ?_⟩) (args_list_sort _)))
  obtain ⟨ss', b1, b2, b3⟩ := sort_out hS a1 a2
  exact wpAny_pure ⟨_, rfl, h _ ss' b1 b2 b3⟩
end
section
variable {X : Cx}
def rSortL (K : PySem.W.Frag) : List V → Hp → VK → Prop := fun xs H Q => ∃ (a : Addr) (ss : List Str), xs = [.ref a] ∧ SqL K H a (ss.map V.str) ∧ ∀ (l : Addr) (ss' : List Str), ss'.Perm ss → ss'.Pairwise leT → H l = none → Q (.ref l) (upd H l (.lst (ss'.map V.str)))
theorem call_sorted_l : CallR X (.builtin "sorted") (rSortL X.K) := by
  intro pins s σ H xs us Q I r h
  obtain ⟨a, ss, rfl, hS, q⟩ := h
  obtain ⟨u, rfl, ru⟩ := vals1 r
  cases ru
  obtain ⟨its, rv, p, hz⟩ := I.list hS
  have hl : its.length = ss.length := by rw [← rv.length, List.length_map]
  rw [List.length_map] at hz
  refine sortedG (vs := its) p.isList (strs_of_vals rv) (by rw [hl]; exact hz) fun out ss' a1 a2 a3 => ?_
  obtain ⟨c, hc⟩ := sortedAll_at s.heap its out
  have hn : H (s.heap.objs.size + 1) = none := I.hok.fresh (Nat.le_succ _)
  exact ⟨.ref (s.heap.objs.size + 1), _, I.laid (t' := s.toks) (o := .lst (ss'.map V.str)) (fun b o e => sortedAll_old e) (Nat.le_succ _) ⟨by rw [List.length_map, a2.length_eq]; exact hz, out.toList, c, vals_of_strs a1, by rw [Array.toArray_toList]; exact hc⟩, rfl, q _ ss' a2 a3 hn⟩
end
end L3

/-! isinstance of deep data. -/
namespace L3
open PySem PySem.Spec PyProof.Rows L2
section
variable {X : Cx}
end
end L3
namespace L3
open PySem PySem.Spec PyProof.Rows L2
section
variable {X : Cx}
end
end L3

/-! zip of a tuple and a list, walked with a pair of names. -/
namespace L3
open PySem PySem.Spec PyProof.Rows L2 PySem.W
section
variable {prog : Program} {w : World} {A : Around} {E : Value → Shared → Prop} {s : Shared}
variable {z TI TO i1 i2 : Addr} {f1 f2 : List Addr} {xs ys : Array Value} {S1 S2 : Nat → Heap → Prop}
end
section
variable {X : Cx} {pins : List (Addr × Obj)} {σ : List (Option V)} {H : Hp} {s : Shared} {h' : Heap}
end
section
variable {prog : Program} {w : World} {A : Around} {E : Value → Shared → Prop} {s : Shared}
end
section
variable {X : Cx}
end
end L3

/-! x[::-1] of a text. -/
namespace L3
open PySem PySem.Spec PyProof.Rows L2
def rvS (x : Str) : Str := ⟨(cl x).reverse.toArray⟩
theorem cl_rvS (x : Str) : cl (rvS x) = (cl x).reverse := rfl
theorem rvS_rvS (x : Str) : rvS (rvS x) = x := str_ext (by rw [cl_rvS, cl_rvS, List.reverse_reverse])
theorem rvS_len (x : Str) : (rvS x).length = x.length := by rw [← cl_length, cl_rvS, List.length_reverse, cl_length]
theorem sliceBy_rv (x : Str) (t : Tok) : Txt.sliceBy x none none (-1, t) = rvS x := by
  refine str_ext ?_
  rw [cl_rvS]
  show (Txt.sliceBy x none none (-1, t)).cps.toList = x.cps.toList.reverse
  rw [step_rev_list]
  refine List.ext_getElem (by simp [Str.length]) fun k h1 h2 => ?_
  have h3 : k < x.cps.size := by simpa using h2
  have h4 : x.length = x.cps.size := rfl
  rw [List.getElem_map, List.getElem_range, List.getElem_reverse, h4]
  have h5 : x.cps.size - 1 - k < x.cps.size := by omega
  simp [Array.getD, h5]
section
variable {X : Cx} {e st : Expr} {te ts : TE} {pos p2 : Pos}
def tRevS (te ts : TE) : TE := fun σ H Q => te σ H fun x H1 => ts σ H1 fun y H2 => y = .int (-1) ∧ ∃ z, x = .str z ∧ z.length ≤ sizeLine ∧ Q (.str (rvS z)) H2
theorem pe_revS (he : PE X e te) (hst : PE X st ts) : PE X (.Subscript e (.Slice none none (some st) p2) pos) (tRevS te ts) := by
  intro pins s σ H Q I h
  refine Subscript_ (thn (he pins s σ H _ I h) fun v s1 ⟨x, H1, I1, r1, q1⟩ => ?_)
  refine wpAny_Slice ?_
  rw [evalPart_none]
  refine wpAny_pure ?_
  refine wpAny_pure ?_
  rw [evalPart_some]
  refine thn (hst pins s1 σ H1 _ I1 q1) fun vs s2 ⟨y, H2, I2, r2, hy, z, hx, hz, q⟩ => ?_
  subst hy hx
  obtain ⟨t, rfl⟩ := r2
  obtain ⟨tz, rfl⟩ := r1
  have I4 : Inv X pins σ H2 { s2 with heap := s2.heap.push { cls := .type "slice", data := .fields #[.none, .none, .int (-1) t] } } := I2.kept (t' := s2.toks) fun b ob q => Heap.get?_push_of_some _ q
  have hg : wpAny (model X.prog X.w) X.A (getItem (.str z tz) (.ref s2.heap.objs.size)) (EP X pins σ Q) X.xe { s2 with heap := s2.heap.push { cls := .type "slice", data := .fields #[.none, .none, .int (-1) t] } } := by
    refine wpAny_getItem_str_slice (l := none) (u := none) (st := some (-1, t)) ⟨_, Heap.get?_push_size _ rfl, rfl, rfl⟩ rfl ?_
    refine post_val_or_str ⟨Nat.le_trans (Txt.sliceBy_le z none none (-1, t) (show (-1 : Int) ≠ 0 by decide)) hz, fun t' k => ?_⟩
    have e1 := sliceBy_rv z t
    unfold Txt.sliceBy at e1
    rw [e1]
    exact ⟨.str (rvS z), H2, I4.tok _, ⟨_, rfl⟩, q⟩
  show wpAny (model X.prog X.w) X.A (subscriptTail e (.Slice none none (some st) p2) (.str z tz) (.ref s2.heap.objs.size)) (EP X pins σ Q) X.xe { s2 with heap := s2.heap.push { cls := .type "slice", data := .fields #[.none, .none, .int (-1) t] } }
  exact tail_any (ops := [.str z tz, .ref s2.heap.objs.size]) (typeIs_str _ _ _) PySem.F.slot_str_getitem.lookup hg (by with_unfolding_all rfl)
end
end L3

/-! the fragment named outright, everywhere: the readings are shorter so. -/
namespace L3
open PySem PySem.Spec PyProof.Rows L2
theorem kPI {X : Cx} {K : PySem.W.Frag} {tg it : Expr} (f : PySem.W.Frag → TI) (h : PI X tg it (f X.K)) (e : X.K = K := by rfl) : PI X tg it (f K) := e ▸ h
theorem kPE {X : Cx} {K : PySem.W.Frag} {ex : Expr} (f : PySem.W.Frag → TE) (h : PE X ex (f X.K)) (e : X.K = K := by rfl) : PE X ex (f K) := e ▸ h
theorem kPG {X : Cx} {K : PySem.W.Frag} {tg : Expr} (f : PySem.W.Frag → TG) (h : PG X tg (f X.K)) (e : X.K = K := by rfl) : PG X tg (f K) := e ▸ h
theorem kCall {X : Cx} {K : PySem.W.Frag} {f : Value} (r : PySem.W.Frag → List V → Hp → VK → Prop) (h : CallR X f (r X.K)) (e : X.K = K := by rfl) : CallR X f (r K) := e ▸ h
end L3

namespace My
open PySem PySem.Spec PyProof.Rows L2 L3
def top (i : Nat) : Stmt := PySem.Challenge.pw_earlyscribe_k69_whole_words_from_the_end.main.body.getD i (.Pass ⟨0, 0, 0, 0⟩)
abbrev s_refuse_other_signs : Stmt := top 11
abbrev s_refuse_many_pairs : Stmt := top 12
abbrev s_each_once : Stmt := top 14
abbrev s_turned : Stmt := top 16
abbrev s_mirrored : Stmt := top 17
abbrev s_either_of : Stmt := top 18
abbrev s_kept_marks : Stmt := top 19
abbrev s_moves_by_sign : Stmt := top 20
abbrev s_kept_steps : Stmt := top 21
abbrev s_kept_to : Stmt := top 22
abbrev s_law_cell_at : Stmt := top 24
abbrev s_law_mixed : Stmt := top 25
abbrev s_law_word : Stmt := top 26
abbrev s_law_signs : Stmt := top 27
abbrev s_law_rest : Stmt := top 28
abbrev s_law_choices : Stmt := top 29
abbrev s_law_text : Stmt := top 30
abbrev s_law_led : Stmt := top 31
abbrev s_law_words : Stmt := top 32
abbrev s_law_good : Stmt := top 33
abbrev s_law : Stmt := top 34
structure Bi (mg : Str → Option Value) : Prop where
  len : mg "len" = none
  list : mg "list" = none
  min : mg "min" = none
  range : mg "range" = none
  sorted : mg "sorted" = none
  BEGINS : ∃ t, mg "BEGINS" = some (.int 2 t)
  ENDS : ∃ t, mg "ENDS" = some (.int 4 t)
  MOST_ROOMS : ∃ t, mg "MOST_ROOMS" = some (.int 200 t)
  ROOMS : ∃ t, mg "ROOMS" = some (.int 1 t)
  SIGNS : ∃ t, mg "SIGNS" = some (.int 0 t)
  STEPS : ∃ t, mg "STEPS" = some (.int 3 t)
structure Xb (K : PySem.W.Frag) (mg : Str → Option Value) (c_OtherSigns c_TooMany : Addr) : Prop where
  nm_OtherSigns : mg "OtherSigns" = some (.ref c_OtherSigns)
  nm_TooMany : mg "TooMany" = some (.ref c_TooMany)
  own_OtherSigns : OwnX K mg "OtherSigns" c_OtherSigns
  xc_OtherSigns : XCls K c_OtherSigns
  own_TooMany : OwnX K mg "TooMany" c_TooMany
  xc_TooMany : XCls K c_TooMany

local macro_rules | `(tactic| walk_at "side") => `(tactic| first | exact pz | exact ⟨pz, pz⟩ | exact .inr ⟨by decide, by decide⟩ | exact ⟨by omega, by omega⟩ | exact .inl ⟨by omega, by omega⟩ | exact .inr ⟨by omega, by omega⟩ | (show (0 : Int) < _; omega) | exact szl (by simp) | exact szl (by omega))
local macro_rules | `(tactic| walk_at "r") => `(tactic| first | refine ⟨_, rfl, ?_⟩ | refine ⟨_, _, rfl, rfl, ?_⟩ | refine ⟨rfl, ?_⟩ | refine ⟨by walk_at "side", ?_⟩)
local macro_rules | `(tactic| walk_at "rd") => `(tactic| repeat walk_at "r")

def isNum (lo hi : Int) (v : V) : Prop := ∃ n : Int, v = .int n ∧ lo ≤ n ∧ n ≤ hi
theorem szl' {n : Nat} (h : n ≤ 99999) : n < sizeLine := Nat.lt_of_lt_of_le (Nat.lt_succ_of_le h) (szl (by omega))
def Wd (x : Str) : Prop := x.length ≤ 40 ∧ ∀ c ∈ cl x, 97 ≤ c ∧ c ≤ 122
structure OkS (pl : Bool) (s : Scr) (n : Nat) : Prop where
  lb : s.begins.length ≤ n
  ls : s.steps.length ≤ n
  le : s.ends.length ≤ n
  mb : ∀ m ∈ s.begins, 0 ≤ m.1 ∧ m.1 < s.rooms ∧ Wd m.2
  ms : ∀ t ∈ s.steps, 0 ≤ t.1 ∧ t.1 < s.rooms ∧ (∃ c ∈ cl s.signs, t.2.1 = ⟨#[c]⟩) ∧ Wd t.2.2.1 ∧ 0 ≤ t.2.2.2 ∧ t.2.2.2 < s.rooms
  me : ∀ m ∈ s.ends, 0 ≤ m.1 ∧ m.1 < s.rooms ∧ Wd m.2
  nb : s.begins.Nodup
  ns : s.steps.Nodup
  ne : s.ends.Nodup
  pb : pl = true → s.begins.length ≤ 1
  po : pl = true → (s.steps.map fun t => (t.1, t.2.1)).Nodup
  pe : pl = true → (s.ends.map (·.1)).Nodup
theorem OkS.mono {pl : Bool} {s : Scr} {n m : Nat} (h : OkS pl s n) (le : n ≤ m) : OkS pl s m :=
  ⟨Nat.le_trans h.lb le, Nat.le_trans h.ls le, Nat.le_trans h.le le, h.mb, h.ms, h.me, h.nb, h.ns, h.ne, h.pb, h.po, h.pe⟩
theorem nodup_snoc {α : Type} {xs : List α} {x : α} (h : xs.Nodup) (hn : x ∉ xs) : (xs ++ [x]).Nodup := by
  rw [List.nodup_append]
  refine ⟨h, by simp, fun a ha b hb => ?_⟩
  rw [List.mem_singleton] at hb
  subst hb
  intro e; subst e; exact hn ha
theorem OkS.begin {pl : Bool} {g : Str} {r : Int} {B : List Mk} {S : List Stp} {E : List Mk} {n : Nat} (h : OkS pl ⟨g, r, B, S, E⟩ n) {i : Int} {x : Str} (h0 : 0 ≤ i) (h1 : i < r) (hw : Wd x) (hn : (i, x) ∉ B) (hp : pl = true → B.length = 0) : OkS pl ⟨g, r, B ++ [(i, x)], S, E⟩ (n + 1) := by
  have ha := h.mono (Nat.le_succ n)
  refine ⟨?_, ha.ls, ha.le, fun m hm => ?_, h.ms, h.me, nodup_snoc h.nb hn, h.ns, h.ne, fun q => ?_, h.po, h.pe⟩
  · show (B ++ [(i, x)]).length ≤ n + 1
    have : B.length ≤ n := h.lb
    rw [List.length_append, List.length_singleton]; omega
  · rcases List.mem_append.mp hm with hm | hm
    · exact h.mb m hm
    · rw [List.mem_singleton.mp hm]; exact ⟨h0, h1, hw⟩
  · show (B ++ [(i, x)]).length ≤ 1
    rw [List.length_append, hp q, List.length_singleton]; omega
theorem OkS.end_ {pl : Bool} {g : Str} {r : Int} {B : List Mk} {S : List Stp} {E : List Mk} {n : Nat} (h : OkS pl ⟨g, r, B, S, E⟩ n) {i : Int} {x : Str} (h0 : 0 ≤ i) (h1 : i < r) (hw : Wd x) (hn : (i, x) ∉ E) (hp : pl = true → ∀ m ∈ E, m.1 ≠ i) : OkS pl ⟨g, r, B, S, E ++ [(i, x)]⟩ (n + 1) := by
  have ha := h.mono (Nat.le_succ n)
  refine ⟨ha.lb, ha.ls, ?_, h.mb, h.ms, fun m hm => ?_, h.nb, h.ns, nodup_snoc h.ne hn, h.pb, h.po, fun q => ?_⟩
  · show (E ++ [(i, x)]).length ≤ n + 1
    have : E.length ≤ n := h.le
    rw [List.length_append, List.length_singleton]; omega
  · rcases List.mem_append.mp hm with hm | hm
    · exact h.me m hm
    · rw [List.mem_singleton.mp hm]; exact ⟨h0, h1, hw⟩
  · show ((E ++ [(i, x)]).map (·.1)).Nodup
    rw [List.map_append]
    refine nodup_snoc (h.pe q) fun hm => ?_
    obtain ⟨m, hm, e⟩ := List.mem_map.mp hm
    exact hp q m hm e
theorem OkS.step {pl : Bool} {g : Str} {r : Int} {B : List Mk} {S : List Stp} {E : List Mk} {n : Nat} (h : OkS pl ⟨g, r, B, S, E⟩ n) {i j : Int} {y x : Str} (h0 : 0 ≤ i) (h1 : i < r) (hy : ∃ c ∈ cl g, y = ⟨#[c]⟩) (hw : Wd x) (h2 : 0 ≤ j) (h3 : j < r) (hn : (i, y, x, j) ∉ S) (hp : pl = true → ∀ t ∈ S, ¬ (t.1 = i ∧ t.2.1 = y)) :
    OkS pl ⟨g, r, B, S ++ [(i, y, x, j)], E⟩ (n + 1) := by
  have ha := h.mono (Nat.le_succ n)
  refine ⟨ha.lb, ?_, ha.le, h.mb, fun t ht => ?_, h.me, h.nb, nodup_snoc h.ns hn, h.ne, h.pb, fun q => ?_, h.pe⟩
  · show (S ++ [(i, y, x, j)]).length ≤ n + 1
    have : S.length ≤ n := h.ls
    rw [List.length_append, List.length_singleton]; omega
  · rcases List.mem_append.mp ht with hm | hm
    · exact h.ms t hm
    · rw [List.mem_singleton.mp hm]; exact ⟨h0, h1, hy, hw, h2, h3⟩
  · show ((S ++ [(i, y, x, j)]).map fun t => (t.1, t.2.1)).Nodup
    rw [List.map_append]
    refine nodup_snoc (h.po q) fun hm => ?_
    obtain ⟨t, hm, e⟩ := List.mem_map.mp hm
    injection e with e1 e2
    exact hp q t hm ⟨e1, e2⟩
theorem same_updN {H0 H : Hp} {p : Addr} {o : HO} (g : Same H0 H) (h : H0 p = none) : Same H0 (upd H p o) := fun b u q => by rw [upd_ne (ne_of_none q h)]; exact g b u q
structure Apart (H0 : Hp) (pb ps pe : Addr) : Prop where
  nb : H0 pb = none
  ns : H0 ps = none
  ne : H0 pe = none
  bs : pb ≠ ps
  be : pb ≠ pe
  se : ps ≠ pe
def cellAt (ns : List Int) (k : Int) : Int := if k < ns.length then (ns[k.toNat]?).getD 0 else 0
def spCell (K : PySem.W.Frag) : Sp := fun vs H Q _ => ∃ (a : Addr) (ns : List Int) (k : Int), vs = [.ref a, .int k] ∧ SqL K H a (ns.map V.int) ∧ 0 ≤ k ∧ Q (.int (cellAt ns k)) H
def spWord : Sp := fun vs H Q _ => ∃ c : Int, vs = [.int c] ∧ ∀ (x : Str) (H' : Hp), Wd x → Same H H' → Q (.str x) H'
def NewS (K : PySem.W.Frag) (H H' : Hp) (pl : Bool) (n : Nat) (s : Scr) (v : V) (pb ps pe : Addr) : Prop := Same H H' ∧ ScV K H' s v pb ps pe ∧ OkS pl s n ∧ 0 ≤ s.rooms ∧ s.rooms ≤ 14 ∧ 1 ≤ s.signs.length ∧ s.signs.length ≤ 5 ∧ (cl s.signs).Nodup ∧ (∀ c ∈ cl s.signs, 97 ≤ c ∧ c ≤ 122)
def ScN (K : PySem.W.Frag) (H : Hp) (s : Scr) (v : V) (pb ps pe : Addr) : Prop := ∃ a xb xs xe, v = .ref a ∧ SqT K H a [.str s.signs, .int s.rooms, .ref pb, .ref ps, .ref pe] ∧ H pb = some (.lst xb) ∧ H ps = some (.lst xs) ∧ H pe = some (.lst xe) ∧
  Paired (MkV K H) s.begins xb ∧ Paired (StV K H) s.steps xs ∧ Paired (MkV K H) s.ends xe
theorem ScN.v {K : PySem.W.Frag} {H : Hp} {s : Scr} {v : V} {pb ps pe : Addr} : ScN K H s v pb ps pe → ScV K H s v pb ps pe
  | ⟨a, xb, xs, xe, e, h1, h2, h3, h4, h5, h6, h7⟩ => ⟨a, xb, xs, xe, e, h1, SqL.of h2, SqL.of h3, SqL.of h4, h5, h6, h7⟩
theorem one_len (c : Nat) : (⟨#[c]⟩ : Str).length = 1 := rfl
theorem len_app (a b : Str) : (a ++ b).length = a.length + b.length := by
  rw [← cl_length, cl_append, List.length_append, cl_length, cl_length]
theorem cl_nil : ∀ c ∈ cl ("" : Str), 97 ≤ c ∧ c ≤ 122 := by
  intro c hc
  have e : cl ("" : Str) = [] := by decide +kernel
  rw [e] at hc; cases hc
theorem cl_one (c : Nat) : cl ⟨#[c]⟩ = [c] := rfl

theorem iteB {b : Bool} {A B : Prop} (h1 : b = true → A) (h2 : b = false → B) : if b = true then A else B := by
  cases b
  · exact iteF (h2 rfl)
  · exact iteT (h1 rfl)
def SgnOk (g : Str) : Prop := 1 ≤ g.length ∧ g.length ≤ 5 ∧ (cl g).Nodup ∧ ∀ c ∈ cl g, 97 ≤ c ∧ c ≤ 122
theorem notIn_mk {K : PySem.W.Frag} {H : Hp} {E : List Mk} {xe : List V} {m : Mk} (h : Paired (MkV K H) E xe) : Reps K H (E.map dMk) xe := reps_of (f := dMk) (F := MkV K H) (fun _ _ h => MkV.rep h) h
theorem reps_st {K : PySem.W.Frag} {H : Hp} {E : List Stp} {xe : List V} (h : Paired (StV K H) E xe) : Reps K H (E.map dSt) xe := reps_of (f := dSt) (F := StV K H) (fun _ _ h => StV.rep h) h
theorem take_get {α : Type} {xs : List α} {i : Nat} {x : α} (h : xs[i]? = some x) : xs.take (i + 1) = xs.take i ++ [x] := by rw [List.take_add_one, h]; rfl

def inR (n : Nat) (i : Int) : Prop := 0 ≤ i ∧ i < n
instance (n : Nat) (i : Int) : Decidable (inR n i) := inferInstanceAs (Decidable (_ ∧ _))
def catS (ys : List Str) : Str := ys.foldl (· ++ ·) ""
theorem app_nil (x : Str) : x ++ ("" : Str) = x := str_ext (by rw [cl_append]; have e : cl ("" : Str) = [] := by decide +kernel
                                                               rw [e, List.append_nil])
theorem nil_app (x : Str) : ("" : Str) ++ x = x := str_ext (by rw [cl_append]; have e : cl ("" : Str) = [] := by decide +kernel
                                                               rw [e, List.nil_append])
theorem app_assoc (x y z : Str) : x ++ y ++ z = x ++ (y ++ z) := str_ext (by simp only [cl_append, List.append_assoc])
theorem join_cat (ys : List Str) : Txt.join "" ys = catS ys := by
  have go : ∀ (ys : List Str) (a : Array Nat), (⟨ys.foldl (fun acc p => acc ++ ("" : Str).cps ++ p.cps) a⟩ : Str) = ys.foldl (· ++ ·) ⟨a⟩ := by
    intro ys
    induction ys with
    | nil => intro a; rfl
    | cons y ys ih =>
      intro a
      rw [List.foldl_cons, List.foldl_cons, ih]
      have e : (⟨a ++ ("" : Str).cps ++ y.cps⟩ : Str) = ⟨a⟩ ++ y := str_ext (by
        show (a ++ ("" : Str).cps ++ y.cps).toList = cl (⟨a⟩ ++ y)
        rw [cl_append, Array.toList_append, Array.toList_append]
        have z : ("" : Str).cps.toList = [] := by decide +kernel
        rw [z, List.append_nil])
      rw [e]
  cases ys with
  | nil => rfl
  | cons y ys =>
    show (⟨ys.foldl (fun acc p => acc ++ ("" : Str).cps ++ p.cps) y.cps⟩ : Str) = _
    rw [go]
    unfold catS
    rw [List.foldl_cons, nil_app]
def Short (s : Scr) : Prop := (∀ m ∈ s.begins, m.2.length ≤ 100) ∧ (∀ t ∈ s.steps, t.2.1.length ≤ 100 ∧ t.2.2.1.length ≤ 100) ∧ ∀ m ∈ s.ends, m.2.length ≤ 100
def spMixed : Sp := fun vs H Q _ => ∃ c k : Int, vs = [.int c, .int k] ∧ ∀ n : Int, 0 ≤ n → n < 2147483587 → Q (.int n) H
def spRest (K : PySem.W.Frag) : Sp := fun vs H Q _ => ∃ (a : Addr) (ns : List Int) (k salt : Int), vs = [.ref a, .int k, .int salt] ∧ SqL K H a (ns.map V.int) ∧ 0 ≤ k ∧ 0 ≤ salt ∧ salt ≤ 8000 ∧ ∀ n : Int, Q (.int n) H
def isLet (v : V) : Prop := ∃ x : Str, v = .str x ∧ 1 ≤ x.length ∧ x.length ≤ 26 ∧ ∀ c ∈ cl x, 97 ≤ c ∧ c ≤ 122
def spSigns2 : Sp := fun vs H Q _ => ∃ n : Int, vs = [.int n] ∧ ∀ (g : Str) (H' : Hp), SgnOk g → Same H H' → Q (.str g) H'

theorem abc_cl : cl ("abcdefghijklmnopqrstuvwxyz" : Str) = List.range' 97 26 := by decide +kernel
theorem abc_len : ("abcdefghijklmnopqrstuvwxyz" : Str).length = 26 := by decide +kernel
theorem abc_at {j : Int} (h0 : 0 ≤ j) (h1 : j < 26) : atI (cl ("abcdefghijklmnopqrstuvwxyz" : Str)) j = some (97 + j.toNat) := by
  obtain ⟨n, rfl⟩ := Int.eq_ofNat_of_zero_le h0
  refine atI_nat ?_
  rw [abc_cl, List.getElem?_range' (by omega)]
  simp
def sgC (m : Int) (k : Nat) : Nat := 97 + ((m + 7 * (k : Int)) % 26).toNat
theorem cl_catS : ∀ cs : List Nat, cl (catS (cs.map fun c => (⟨#[c]⟩ : Str))) = cs
  | [] => by decide +kernel
  | c :: cs => by
    have go : ∀ (ys : List Str) (a : Str), cl (ys.foldl (· ++ ·) a) = cl a ++ cl (catS ys) := by
      intro ys
      induction ys with
      | nil => intro a; show cl a = cl a ++ cl ("" : Str); rw [show cl ("" : Str) = [] by decide +kernel, List.append_nil]
      | cons y ys ih =>
        intro a
        have h1 := ih (a ++ y)
        have h2 := ih ("" ++ y)
        show cl (ys.foldl (· ++ ·) (a ++ y)) = cl a ++ cl (ys.foldl (· ++ ·) ("" ++ y))
        rw [h1, h2, cl_append, cl_append, show cl ("" : Str) = [] by decide +kernel, List.nil_append, List.append_assoc]
    rw [List.map_cons]
    show cl ((cs.map fun c => (⟨#[c]⟩ : Str)).foldl (· ++ ·) ("" ++ ⟨#[c]⟩)) = _
    rw [go, cl_catS cs, cl_append, show cl ("" : Str) = [] by decide +kernel, cl_one]; rfl
theorem sgC_nodup (m : Int) : ∀ n : Nat, n ≤ 5 → ((List.range n).map (sgC m)).Nodup
  | 0, _ => by simp
  | n + 1, h => by
    rw [List.range_succ, List.map_append]
    refine nodup_snoc (sgC_nodup m n (by omega)) fun hm => ?_
    obtain ⟨k, hk, e⟩ := List.mem_map.mp hm
    have := List.mem_range.mp hk
    unfold sgC at e
    have h1 := Int.emod_nonneg (m + 7 * (k : Int)) (show (26 : Int) ≠ 0 by decide)
    have h2 := Int.emod_nonneg (m + 7 * (n : Int)) (show (26 : Int) ≠ 0 by decide)
    omega
theorem sg_ok (m : Int) {n : Nat} (h1 : 1 ≤ n) (h5 : n ≤ 5) : SgnOk (catS (((List.range n).map (sgC m)).map fun c => (⟨#[c]⟩ : Str))) := by
  have e := cl_catS ((List.range n).map (sgC m))
  refine ⟨?_, ?_, ?_, ?_⟩
  · rw [← cl_length, e, List.length_map, List.length_range]; exact h1
  · rw [← cl_length, e, List.length_map, List.length_range]; exact h5
  · rw [e]; exact sgC_nodup m n h5
  · rw [e]
    intro c hc
    obtain ⟨k, _, rfl⟩ := List.mem_map.mp hc
    unfold sgC
    have h1 := Int.emod_nonneg (m + 7 * (k : Int)) (show (26 : Int) ≠ 0 by decide)
    have h2 := Int.emod_lt_of_pos (m + 7 * (k : Int)) (show (0 : Int) < 26 by decide)
    omega

def GT (H H' : Hp) : Prop := ∀ b xs, Rd H b (.tup xs) → Rd H' b (.tup xs)
theorem GT.trans {H H' H'' : Hp} (a : GT H H') (b : GT H' H'') : GT H H'' := fun c xs h => b c xs (a c xs h)
theorem GT.of {H H' : Hp} (g : Same H H') : GT H H' := fun b xs h => by
  rcases h with h | ⟨o, h⟩
  · exact .inl (g _ _ h)
  · exact .inr ⟨o, g _ _ h⟩
theorem gt_upd {H : Hp} {p : Addr} {o : HO} (h : H p = some o) (n1 : ∀ xs, o ≠ .tup xs) (n2 : ∀ u xs, o ≠ .frz u (.tup xs)) (o' : HO) : GT H (upd H p o') := fun b xs q => by
  have hne : b ≠ p := by
    rintro rfl
    rcases q with q | ⟨u, q⟩
    · rw [h] at q; exact n1 xs (Option.some.inj q)
    · rw [h] at q; exact n2 u xs (Option.some.inj q)
  unfold Rd
  rw [upd_ne hne]
  exact q
theorem gt_lst {H : Hp} {p : Addr} {xs : List V} (h : H p = some (.lst xs)) (o' : HO) : GT H (upd H p o') := gt_upd h (fun _ z => nomatch z) (fun _ _ z => nomatch z) o'
theorem GT.seqT {K : PySem.W.Frag} {H H' : Hp} {a : Addr} {xs : List V} (g : GT H H') (h : SqT K H a xs) : SqT K H' a xs := by
  rcases h with h | h
  · exact .inl (g _ _ h)
  · exact .inr h
theorem StV.gt {K : PySem.W.Frag} {H H' : Hp} {m : Stp} {v : V} (g : GT H H') : StV K H m v → StV K H' m v := fun ⟨b, e, h⟩ => ⟨b, e, g.seqT h⟩
structure Bk {κ α : Type} [DecidableEq κ] (R : Hp → α → V → Prop) (key : α → κ) (H0 H : Hp) (d : Addr) (ts : List α) (kvs : List (κ × V)) : Prop where
  there : ∀ k v, valV kvs k = some v → ∃ l ys, v = .ref l ∧ H0 l = none ∧ l ≠ d ∧ H l = some (.lst ys) ∧ Paired (R H) (ts.filter fun t => decide (key t = k)) ys ∧ 0 < ys.length
  nokey : ∀ k, valV kvs k = none → ts.filter (fun t => decide (key t = k)) = []
  inj : ∀ k k' l, valV kvs k = some (.ref l) → valV kvs k' = some (.ref l) → k = k'
  len : kvs.length ≤ ts.length
theorem filter_snoc {α : Type} (p : α → Bool) (xs : List α) (x : α) : (xs ++ [x]).filter p = xs.filter p ++ if p x = true then [x] else [] := by
  rw [List.filter_append]
  congr 1
  by_cases h : p x = true
  · rw [if_pos h, List.filter_cons_of_pos h]; rfl
  · rw [if_neg h, List.filter_cons_of_neg h]; rfl
def addM {α : Type} [DecidableEq α] (acc : List α) (m : α) : List α := if m ∈ acc then acc else acc ++ [m]
def onceM {α : Type} [DecidableEq α] (xs : List α) : List α := xs.foldl addM []
theorem once_snoc {α : Type} [DecidableEq α] (xs : List α) (x : α) : onceM (xs ++ [x]) = addM (onceM xs) x := by unfold onceM; rw [List.foldl_append]; rfl
theorem once_len {α : Type} [DecidableEq α] (xs : List α) : (onceM xs).length ≤ xs.length := by
  have go : ∀ (xs acc : List α), (xs.foldl addM acc).length ≤ acc.length + xs.length := by
    intro xs
    induction xs with
    | nil => intro acc; exact Nat.le_refl _
    | cons x xs ih =>
      intro acc
      have h := ih (addM acc x)
      have : (addM acc x).length ≤ acc.length + 1 := by
        unfold addM; split
        · omega
        · rw [List.length_append]; exact Nat.le_refl _
      rw [List.foldl_cons, List.length_cons]; omega
  have := go xs []
  unfold onceM
  simpa using this
theorem put_keys {κ : Type} [DecidableEq κ] (kvs : List (κ × V)) (k : κ) (v : V) : (putK kvs k v).map (·.1) = addM (kvs.map (·.1)) k := by
  have hm : (kvs.any fun kv => decide (kv.1 = k)) = true ↔ k ∈ kvs.map (·.1) := by
    rw [List.any_eq_true, List.mem_map]
    exact ⟨fun ⟨x, h1, h2⟩ => ⟨x, h1, of_decide_eq_true h2⟩, fun ⟨x, h1, h2⟩ => ⟨x, h1, decide_eq_true h2⟩⟩
  unfold putK addM
  by_cases h : k ∈ kvs.map (·.1)
  · rw [if_pos (hm.mpr h), if_pos h, List.map_map]
    refine List.map_congr_left fun x _ => ?_
    show (if x.1 = k then _ else _ : κ × V).1 = x.1
    split
    · rename_i e; first | exact e.symm | rfl
    · rfl
  · rw [if_neg (fun z => h (hm.mp z)), if_neg h, List.map_append]; rfl
theorem add_map {α β : Type} [DecidableEq α] [DecidableEq β] {f : α → β} (inj : ∀ a b, f a = f b → a = b) (acc : List α) (m : α) : (addM acc m).map f = addM (acc.map f) (f m) := by
  have hm : f m ∈ acc.map f ↔ m ∈ acc := by
    rw [List.mem_map]
    exact ⟨fun ⟨x, h1, h2⟩ => inj _ _ h2 ▸ h1, fun h => ⟨m, h, rfl⟩⟩
  unfold addM
  by_cases h : m ∈ acc
  · rw [if_pos h, if_pos (hm.mpr h)]
  · rw [if_neg h, if_neg (fun z => h (hm.mp z)), List.map_append]; rfl

section
variable {κ α : Type} [DecidableEq κ] {R : Hp → α → V → Prop} {key : α → κ} {H0 H : Hp} {d : Addr} {ts : List α} {kvs : List (κ × V)}
theorem Bk.nil : Bk R key H0 H d [] ([] : List (κ × V)) := ⟨fun k v h => (by cases h), fun _ _ => rfl, fun k k' l h => (by cases h), Nat.le_refl _⟩
theorem Bk.mono {H' : Hp} (mono : ∀ (H H' : Hp) (t : α) (v : V), GT H H' → R H t v → R H' t v) (b : Bk R key H0 H d ts kvs) (g : Same H H') : Bk R key H0 H' d ts kvs :=
  ⟨fun k v h => let ⟨l, ys, e, h1, h2, h3, h4, h5⟩ := b.there k v h; ⟨l, ys, e, h1, h2, g _ _ h3, paired_mono (fun _ _ => mono _ _ _ _ (GT.of g)) h4, h5⟩, b.nokey, b.inj, b.len⟩
theorem Bk.put (mono : ∀ (H H' : Hp) (t : α) (v : V), GT H H' → R H t v → R H' t v) (b : Bk R key H0 H d ts kvs) {t : α} {y : V} {l : Addr} {ys : List V} (hv : valV kvs (key t) = some (.ref l)) (hl : H l = some (.lst ys)) (hy : R H t y) :
    Bk R key H0 (upd H l (.lst (ys ++ [y]))) d (ts ++ [t]) kvs := by
  have gr := gt_lst hl (.lst (ys ++ [y]))
  refine ⟨fun k v h => ?_, fun k h => ?_, b.inj, by rw [List.length_append]; exact Nat.le_add_right_of_le b.len⟩
  · obtain ⟨l', ys', rfl, h1, h2, h3, h4, h5⟩ := b.there k v h
    rw [filter_snoc]
    by_cases hk : key t = k
    · subst hk
      rw [hv] at h; cases h
      rw [hl] at h3; cases h3
      rw [if_pos (by simp)]
      exact ⟨l, ys ++ [y], rfl, h1, h2, upd_same, paired_append (paired_mono (fun _ _ => mono _ _ _ _ gr) h4) (.cons (mono _ _ _ _ gr hy) .nil), by rw [List.length_append]; omega⟩
    · have hne : l' ≠ l := fun e => hk (b.inj _ _ l hv (e ▸ h))
      rw [if_neg (by simpa using hk), List.append_nil]
      exact ⟨l', ys', rfl, h1, h2, by rw [upd_ne hne]; exact h3, paired_mono (fun _ _ => mono _ _ _ _ gr) h4, h5⟩
  · rw [filter_snoc, b.nokey k h]
    by_cases hk : key t = k
    · subst hk; rw [hv] at h; cases h
    · rw [if_neg (by simpa using hk)]; rfl
theorem Bk.new (mono : ∀ (H H' : Hp) (t : α) (v : V), GT H H' → R H t v → R H' t v) (b : Bk R key H0 H d ts kvs) {t : α} {y : V} {p : Addr} {o od : HO} (hv : valV kvs (key t) = none) (hp0 : H0 p = none) (hpd : p ≠ d) (hd : H d = some od) (n1 : ∀ xs, od ≠ .tup xs) (n2 : ∀ u xs, od ≠ .frz u (.tup xs)) (hpn : ∀ k, valV kvs k ≠ some (.ref p)) (hp : H p = some (.lst [])) (hy : R H t y) :
    Bk R key H0 (upd (upd H d o) p (.lst [y])) d (ts ++ [t]) (putK kvs (key t) (.ref p)) := by
  have g1 := gt_upd hd n1 n2 o
  have hp1 : upd H d o p = some (.lst []) := by rw [upd_ne hpd]; exact hp
  have gr := g1.trans (gt_lst hp1 (.lst [y]))
  refine ⟨fun k v h => ?_, fun k h => ?_, fun k k' l h h' => ?_, ?_⟩
  · rw [valV_put] at h
    rw [filter_snoc]
    by_cases hk : k = key t
    · subst hk
      rw [if_pos rfl] at h; cases h
      rw [if_pos (by simp), b.nokey _ hv]
      exact ⟨p, [y], rfl, hp0, hpd, upd_same, .cons (mono _ _ _ _ gr hy) .nil, Nat.zero_lt_one⟩
    · rw [if_neg hk] at h
      obtain ⟨l', ys', rfl, h1, h2, h3, h4, h5⟩ := b.there k v h
      have hne : l' ≠ p := fun e => hpn k (e ▸ h)
      rw [if_neg (by simpa using fun e => hk (Eq.symm e)), List.append_nil]
      exact ⟨l', ys', rfl, h1, h2, by rw [upd_ne hne, upd_ne h2]; exact h3, paired_mono (fun _ _ => mono _ _ _ _ gr) h4, h5⟩
  · rw [valV_put] at h
    by_cases hk : k = key t
    · rw [if_pos hk] at h; cases h
    · rw [if_neg hk] at h
      rw [filter_snoc, b.nokey k h, if_neg (by simpa using fun e => hk (Eq.symm e))]; rfl
  · rw [valV_put] at h h'
    by_cases hk : k = key t
    · rw [if_pos hk] at h; cases h
      by_cases hk' : k' = key t
      · rw [hk, hk']
      · rw [if_neg hk'] at h'; exact absurd h' (hpn k')
    · rw [if_neg hk] at h
      by_cases hk' : k' = key t
      · rw [if_pos hk'] at h'; cases h'; exact absurd h (hpn k)
      · rw [if_neg hk'] at h'; exact b.inj k k' l h h'
  · have h1 := length_putK kvs (key t) (.ref p)
    have h2 := b.len
    rw [List.length_append, List.length_singleton]; omega
end

def stKey (t : Stp) : List Key := [Sum.inl t.1, Sum.inr t.2.1]
def mkKey (m : Mk) : Key := Sum.inl m.1
def Lens (s : Scr) : Prop := s.begins.length ≤ 999 ∧ s.steps.length ≤ 999 ∧ s.ends.length ≤ 999
def pKey (m : Mk) : List Key := [Sum.inl m.1, Sum.inr m.2]
theorem pKey_inj (a b : Mk) (h : pKey a = pKey b) : a = b := by
  unfold pKey at h
  injection h with h1 h2
  injection h2 with h2 h3
  injection h1 with h1; injection h2 with h2
  exact Prod.ext h1 h2
def onM (ts : List Stp) (k : Nat) (c : Mk) : List Mk := (ts.filter (fun t => decide (stKey t = [Sum.inl c.1, Sum.inr (⟨#[k]⟩ : Str)]))).map fun t => (t.2.2.2, c.2 ++ t.2.2.1)
def newsM (ts : List Stp) (P : List Mk) (k : Nat) : List Mk := P.flatMap (onM ts k)
def behindM (ts : List Stp) (P : List Mk) (k : Nat) : List Mk := onceM (newsM ts P k)
theorem flat_take {α β : Type} (f : α → List β) {xs : List α} {i : Nat} {x : α} (h : xs[i]? = some x) : (xs.take (i + 1)).flatMap f = (xs.take i).flatMap f ++ f x := by
  rw [take_get h, List.flatMap_append, List.flatMap_singleton]
def wOnM (s : Scr) (c : Mk) : List Str := (s.ends.filter (fun m => decide (mkKey m = Sum.inl c.1))).map fun m => c.2 ++ m.2
def wordsM (s : Scr) (P : List Mk) : List Str := onceM (P.flatMap (wOnM s))
theorem once_mem {α : Type} [DecidableEq α] {xs : List α} {x : α} (h : x ∈ onceM xs) : x ∈ xs := by
  have go : ∀ (xs acc : List α), x ∈ xs.foldl addM acc → x ∈ acc ∨ x ∈ xs := by
    intro xs
    induction xs with
    | nil => intro acc h; exact .inl h
    | cons y ys ih =>
      intro acc h
      rcases ih _ h with h | h
      · unfold addM at h
        split at h
        · exact .inl h
        · rcases List.mem_append.mp h with h | h
          · exact .inl h
          · exact .inr (by rw [List.mem_singleton.mp h]; exact List.mem_cons_self ..)
      · exact .inr (List.mem_cons_of_mem _ h)
  rcases go xs [] h with h | h
  · cases h
  · exact h
theorem behind_len {s : Scr} {P : List Mk} {k n : Nat} (hs : ∀ t ∈ s.steps, t.2.2.1.length ≤ 100) (h : ∀ m ∈ P, m.2.length ≤ n) : ∀ m ∈ behindM s.steps P k, m.2.length ≤ n + 100 := fun m hm => by
  obtain ⟨c, hc, hm⟩ := List.mem_flatMap.mp (once_mem hm)
  unfold onM at hm
  obtain ⟨t, ht, rfl⟩ := List.mem_map.mp hm
  have h1 := hs t (List.mem_filter.mp ht).1
  have h2 := h c hc
  show (c.2 ++ t.2.2.1).length ≤ n + 100
  rw [len_app]; omega
theorem flat_len {α β : Type} {f : α → List β} {n : Nat} (h : ∀ x, (f x).length ≤ n) : ∀ xs : List α, (xs.flatMap f).length ≤ n * xs.length
  | [] => Nat.zero_le _
  | x :: xs => by
    have h1 := h x
    have h2 := flat_len h xs
    rw [List.flatMap_cons, List.length_append, List.length_cons, Nat.mul_succ]; omega

theorem once_iff {α : Type} [DecidableEq α] {xs : List α} {x : α} : x ∈ onceM xs ↔ x ∈ xs := by
  refine ⟨once_mem, fun h => ?_⟩
  have go : ∀ (xs acc : List α), x ∈ acc ∨ x ∈ xs → x ∈ xs.foldl addM acc := by
    intro xs
    induction xs with
    | nil => intro acc h; exact h.elim id (fun z => nomatch z)
    | cons y ys ih =>
      intro acc h
      refine ih _ ?_
      by_cases c : x ∈ addM acc y
      · exact .inl c
      · refine .inr ?_
        unfold addM at c
        rcases h with h | h
        · exfalso
          split at c
          · exact c h
          · exact c (List.mem_append_left _ h)
        · rcases List.mem_cons.mp h with e | h
          · exfalso
            subst e
            split at c
            · rename_i z; exact c z
            · exact c (List.mem_append_right _ (List.mem_singleton.mpr rfl))
          · exact h
  exact go xs [] (.inr h)
theorem once_nodup {α : Type} [DecidableEq α] (xs : List α) : (onceM xs).Nodup := by
  have go : ∀ (xs acc : List α), acc.Nodup → (xs.foldl addM acc).Nodup := by
    intro xs
    induction xs with
    | nil => intro acc h; exact h
    | cons y ys ih =>
      intro acc h
      refine ih _ ?_
      unfold addM
      split
      · exact h
      · rename_i z; exact nodup_snoc h z
  exact go xs [] List.Pairwise.nil
def gwM (s : Scr) (o : Option (List Mk)) (k : Nat) : Option (List Mk) := o.bind fun P => if (behindM s.steps P k).length ≤ 200 then some (behindM s.steps P k) else none
def rwM (s : Scr) (ks : List Nat) : Option (List Mk) := ks.foldl (gwM s) (some (onceM s.begins))
theorem run_none (s : Scr) : ∀ ks : List Nat, ks.foldl (gwM s) none = none
  | [] => rfl
  | _ :: ks => run_none s ks
theorem run_take {s : Scr} {ks : List Nat} {i : Nat} {k : Nat} (h : ks[i]? = some k) : rwM s (ks.take (i + 1)) = gwM s (rwM s (ks.take i)) k := by
  unfold rwM
  rw [take_get h, List.foldl_append]; rfl
theorem run_cut {s : Scr} {ks : List Nat} {i : Nat} (h : rwM s (ks.take i) = none) : rwM s ks = none := by
  have e : ks = ks.take i ++ ks.drop i := (List.take_append_drop i ks).symm
  unfold rwM at *
  rw [e, List.foldl_append, h, run_none]
def onJ (ts : List Stp) (k : Nat) (c : Mk) (j : Nat) : List Mk := onM (ts.take j) k c
theorem onJ_snoc {ts : List Stp} {k : Nat} {c : Mk} {j : Nat} {t : Stp} (h : ts[j]? = some t) : onJ ts k c (j + 1) = onJ ts k c j ++ (if t.1 = c.1 ∧ t.2.1 = ⟨#[k]⟩ then [(t.2.2.2, c.2 ++ t.2.2.1)] else []) := by
  unfold onJ onM
  rw [take_get h, List.filter_append, List.map_append]
  congr 1
  by_cases z : t.1 = c.1 ∧ t.2.1 = ⟨#[k]⟩
  · rw [if_pos z, List.filter_cons_of_pos (by unfold stKey; rw [z.1, z.2]; exact decide_eq_true rfl)]; rfl
  · rw [if_neg z, List.filter_cons_of_neg (fun y => z ?_)]
    · rfl
    · have := of_decide_eq_true y
      unfold stKey at this
      injection this with h1 h2
      injection h1 with h1
      injection h2 with h2
      injection h2 with h2
      exact ⟨h1, h2⟩
def wOnJ (s : Scr) (c : Mk) (j : Nat) : List Str := ((s.ends.take j).filter (fun m => decide (mkKey m = Sum.inl c.1))).map fun m => c.2 ++ m.2
theorem wOnJ_snoc {s : Scr} {c : Mk} {j : Nat} {m : Mk} (h : s.ends[j]? = some m) : wOnJ s c (j + 1) = wOnJ s c j ++ (if m.1 = c.1 then [c.2 ++ m.2] else []) := by
  unfold wOnJ
  rw [take_get h, List.filter_append, List.map_append]
  congr 1
  by_cases z : m.1 = c.1
  · rw [if_pos z, List.filter_cons_of_pos (by unfold mkKey; rw [z]; exact decide_eq_true rfl)]; rfl
  · rw [if_neg z, List.filter_cons_of_neg (fun y => z ?_)]
    · rfl
    · have := of_decide_eq_true y
      unfold mkKey at this
      injection this
theorem on_len (ts : List Stp) (k : Nat) (c : Mk) : (onM ts k c).length ≤ ts.length := by
  unfold onM; rw [List.length_map]; exact List.length_filter_le _ _
def MkH (H : Hp) (m : Mk) (v : V) : Prop := ∃ b, v = .ref b ∧ H b = some (.tup [.int m.1, .str m.2])
theorem MkH.mono {H H' : Hp} {m : Mk} {v : V} (g : Grow H H') : MkH H m v → MkH H' m v := fun ⟨b, e, h⟩ => ⟨b, e, g b _ h (fun _ z => nomatch z)⟩
theorem mkH_v {K : PySem.W.Frag} {H : Hp} {M : List Mk} {xs : List V} (h : Paired (MkH H) M xs) : Paired (MkV K H) M xs := paired_mono (fun _ _ ⟨b, e, h⟩ => ⟨b, e, SqT.of h⟩) h
def BgH (H : Hp) (p : Addr) (M : List Mk) : Prop := ∃ xs, H p = some (.lst xs) ∧ Paired (MkH H) M xs
theorem BgH.mono {H H' : Hp} {p : Addr} {M : List Mk} (g : Same H H') : BgH H p M → BgH H' p M := fun ⟨xs, e, h⟩ => ⟨xs, g _ _ e, paired_mono (fun _ _ => MkH.mono (Same.grow g)) h⟩
theorem reps_strs {K : PySem.W.Frag} {H : Hp} : ∀ ss : List Str, Reps K H (ss.map D.str) (ss.map V.str)
  | [] => .nil
  | x :: ss => .cons (rep_str x) (reps_strs ss)
theorem deeps_strs : ∀ ss : List Str, deeps (ss.map D.str) = 0
  | [] => rfl
  | x :: ss => by rw [List.map_cons, deeps, deeps_strs ss]; rfl
def spText5 (K : PySem.W.Frag) : Sp := fun vs H Q _ => ∃ (a : Addr) (ns : List Int) (g : Str) (n : Int), vs = [.ref a, .str g, .int n] ∧ SqL K H a (ns.map V.int) ∧ 1 ≤ g.length ∧ g.length ≤ 26 ∧ 0 ≤ n ∧ n ≤ 50 ∧ ∀ x : Str, x.length ≤ 50 → Q (.str x) H
def spLed (K : PySem.W.Frag) : Sp := fun vs H Q _ => ∃ (v : V) (s : Scr) (pb ps pe a : Addr) (ns : List Int) (k n : Int), vs = [v, .ref a, .int k, .int n] ∧ ScV K H s v pb ps pe ∧ Lens s ∧ Short s ∧ SqL K H a (ns.map V.int) ∧ 0 ≤ n ∧ n ≤ 50 ∧ (∀ t ∈ s.steps, t.2.1.length ≤ 1) ∧ ∀ (x : Str) H', x.length ≤ 50 → Same H H' → Q (.str x) H'
def LensW (s : Scr) : Prop := s.begins.length ≤ 999 ∧ s.steps.length ≤ 9999 ∧ s.ends.length ≤ 999
def spWords (K : PySem.W.Frag) : Sp := fun vs H Q _ => ∃ v s pb ps pe x, vs = [v, .str x] ∧ ScV K H s v pb ps pe ∧ BgH H pb s.begins ∧ LensW s ∧ Short s ∧ x.length ≤ 50 ∧
  (∀ P, rwM s (cl x) = some P → ∀ (l : Addr) (ss : List Str) (H' : Hp), Same H H' → H l = none → ss.Perm (wordsM s P) → ss.Pairwise leT → H' l = some (.lst (ss.map V.str)) → Q (.ref l) H') ∧ (rwM s (cl x) = none → ∀ H', Same H H' → Q .non H')

def HIh (K : PySem.W.Frag) (H0 : Hp) (pb ps pe : Addr) (pl : Bool) (g : Str) (r : Int) (n : Nat) (H : Hp) : Prop := ∃ B S E xb xs xe, Same H0 H ∧ H pb = some (.lst xb) ∧ H ps = some (.lst xs) ∧ H pe = some (.lst xe) ∧
  Paired (MkH H) B xb ∧ Paired (StV K H) S xs ∧ Paired (MkV K H) E xe ∧ OkS pl ⟨g, r, B, S, E⟩ n
theorem HIh.mono {K : PySem.W.Frag} {H0 H H' : Hp} {pb ps pe : Addr} {pl : Bool} {g : Str} {r : Int} {n m : Nat} (h : HIh K H0 pb ps pe pl g r n H) (s : Same H H') (le : n ≤ m) : HIh K H0 pb ps pe pl g r m H' := by
  obtain ⟨B, S, E, xb, xs, xe, h1, h2, h3, h4, h5, h6, h7, h8⟩ := h
  have g' := Same.grow s
  exact ⟨B, S, E, xb, xs, xe, h1.trans s, s _ _ h2, s _ _ h3, s _ _ h4, paired_mono (fun _ _ => MkH.mono g') h5, paired_mono (fun _ _ => StV.mono g') h6, paired_mono (fun _ _ => MkV.mono g') h7, h8.mono le⟩
theorem HIh.addStep {K : PySem.W.Frag} {H0 H : Hp} {pb ps pe : Addr} {pl : Bool} {g : Str} {r : Int} {n : Nat} {B : List Mk} {S : List Stp} {E : List Mk} {xb xs xe : List V} {t : Stp} {v : V} (A : Apart H0 pb ps pe) (h1 : Same H0 H) (h2 : H pb = some (.lst xb)) (h3 : H ps = some (.lst xs)) (h4 : H pe = some (.lst xe))
    (h5 : Paired (MkH H) B xb) (h6 : Paired (StV K H) S xs) (h7 : Paired (MkV K H) E xe) (h8 : OkS pl ⟨g, r, B, S ++ [t], E⟩ n) (hv : StV K H t v) : HIh K H0 pb ps pe pl g r n (upd H ps (.lst (xs ++ [v]))) := by
  have gr := grow_upd h3 (.lst (xs ++ [v]))
  exact ⟨B, S ++ [t], E, xb, xs ++ [v], xe, same_updN h1 A.ns, by rw [upd_ne A.bs]; exact h2, upd_same, by rw [upd_ne A.se.symm]; exact h4, paired_mono (fun _ _ => MkH.mono gr) h5,
    paired_append (paired_mono (fun _ _ => StV.mono gr) h6) (.cons (StV.mono gr hv) .nil), paired_mono (fun _ _ => MkV.mono gr) h7, h8⟩
theorem HIh.addEnd {K : PySem.W.Frag} {H0 H : Hp} {pb ps pe : Addr} {pl : Bool} {g : Str} {r : Int} {n : Nat} {B : List Mk} {S : List Stp} {E : List Mk} {xb xs xe : List V} {t : Mk} {v : V} (A : Apart H0 pb ps pe) (h1 : Same H0 H) (h2 : H pb = some (.lst xb)) (h3 : H ps = some (.lst xs)) (h4 : H pe = some (.lst xe))
    (h5 : Paired (MkH H) B xb) (h6 : Paired (StV K H) S xs) (h7 : Paired (MkV K H) E xe) (h8 : OkS pl ⟨g, r, B, S, E ++ [t]⟩ n) (hv : MkV K H t v) : HIh K H0 pb ps pe pl g r n (upd H pe (.lst (xe ++ [v]))) := by
  have gr := grow_upd h4 (.lst (xe ++ [v]))
  exact ⟨B, S, E ++ [t], xb, xs, xe ++ [v], same_updN h1 A.ne, by rw [upd_ne A.be]; exact h2, by rw [upd_ne A.se]; exact h3, upd_same, paired_mono (fun _ _ => MkH.mono gr) h5,
    paired_mono (fun _ _ => StV.mono gr) h6, paired_append (paired_mono (fun _ _ => MkV.mono gr) h7) (.cons (MkV.mono gr hv) .nil), h8⟩
theorem HIh.addBegin {K : PySem.W.Frag} {H0 H : Hp} {pb ps pe : Addr} {pl : Bool} {g : Str} {r : Int} {n : Nat} {B : List Mk} {S : List Stp} {E : List Mk} {xb xs xe : List V} {t : Mk} {v : V} (A : Apart H0 pb ps pe) (h1 : Same H0 H) (h2 : H pb = some (.lst xb)) (h3 : H ps = some (.lst xs)) (h4 : H pe = some (.lst xe))
    (h5 : Paired (MkH H) B xb) (h6 : Paired (StV K H) S xs) (h7 : Paired (MkV K H) E xe) (h8 : OkS pl ⟨g, r, B ++ [t], S, E⟩ n) (hv : MkH H t v) : HIh K H0 pb ps pe pl g r n (upd H pb (.lst (xb ++ [v]))) := by
  have gr := grow_upd h2 (.lst (xb ++ [v]))
  exact ⟨B ++ [t], S, E, xb ++ [v], xs, xe, same_updN h1 A.nb, upd_same, by rw [upd_ne A.bs.symm]; exact h3, by rw [upd_ne A.be.symm]; exact h4, paired_append (paired_mono (fun _ _ => MkH.mono gr) h5) (.cons (MkH.mono gr hv) .nil),
    paired_mono (fun _ _ => StV.mono gr) h6, paired_mono (fun _ _ => MkV.mono gr) h7, h8⟩

def spDraw4H (K : PySem.W.Frag) : Sp := fun vs H Q _ => ∃ (a : Addr) (ns : List Int) (salt most : Int) (g : Str), vs = [.ref a, .int salt, .int most, .str g] ∧ SqL K H a (ns.map V.int) ∧ ns.length ≤ 63 ∧ 0 ≤ salt ∧ salt ≤ 8000 ∧ 0 ≤ most ∧ most ≤ 14 ∧ SgnOk g ∧ ∀ v H' s pb ps pe, NewS K H H' false 62 s v pb ps pe → s.signs = g → ScN K H' s v pb ps pe → BgH H' pb s.begins → Q v H'

def shM (r : Int) (m : Mk) : Mk := (m.1 + r, m.2)
def shT (r : Int) (t : Stp) : Stp := (t.1 + r, t.2.1, t.2.2.1, t.2.2.2 + r)
def eithS (s u : Scr) : Scr := ⟨s.signs, s.rooms + u.rooms, s.begins ++ u.begins.map (shM s.rooms), s.steps ++ u.steps.map (shT s.rooms), s.ends ++ u.ends.map (shM s.rooms)⟩
def Lens3 (s : Scr) : Prop := s.begins.length ≤ 999 ∧ s.steps.length ≤ 999 ∧ s.ends.length ≤ 999
def spOther (K : PySem.W.Frag) (c : Addr) : Sp := fun vs H Q E => ∃ v s pb ps pe w u qb qs qe, vs = [v, w] ∧ ScV K H s v pb ps pe ∧ ScV K H u w qb qs qe ∧ (s.signs = u.signs → Q .non H) ∧ (s.signs ≠ u.signs → E (.ref c) none H)
def spEither (K : PySem.W.Frag) (c c2 : Addr) : Sp := fun vs H Q E => ∃ v s pb ps pe w u qb qs qe, vs = [v, w] ∧ ScN K H s v pb ps pe ∧ ScN K H u w qb qs qe ∧ Lens3 s ∧ Lens3 u ∧ BgH H pb s.begins ∧ (s.signs ≠ u.signs → E (.ref c) none H) ∧ (s.signs = u.signs → 200 < s.rooms + u.rooms → E (.ref c2) none H) ∧
  (s.signs = u.signs → s.rooms + u.rooms ≤ 200 → ∀ v' H' pb' ps' pe', Same H H' → ScN K H' (eithS s u) v' pb' ps' pe' → Apart H pb' ps' pe' → BgH H' pb' (eithS s u).begins → Q v' H')
structure LensR (s : Scr) : Prop where
  lb : s.begins.length ≤ 999
  ls : s.steps.length ≤ 999
  le : s.ends.length ≤ 999
theorem ScN.mono {K : PySem.W.Frag} {H H' : Hp} {s : Scr} {v : V} {pb ps pe : Addr} (g : Same H H') : ScN K H s v pb ps pe → ScN K H' s v pb ps pe
  | ⟨a, xb, xs, xe, e, h1, h2, h3, h4, h5, h6, h7⟩ => ⟨a, xb, xs, xe, e, Same.seqT g h1, g _ _ h2, g _ _ h3, g _ _ h4, paired_mono (fun _ _ => MkV.mono (Same.grow g)) h5, paired_mono (fun _ _ => StV.mono (Same.grow g)) h6, paired_mono (fun _ _ => MkV.mono (Same.grow g)) h7⟩

def KyR (H : Hp) (k : List Key) (v : V) : Prop := ∃ b, v = .ref b ∧ H b = some (.tup (k.map kV))
theorem KyR.mono {H H' : Hp} {k : List Key} {v : V} (g : Same H H') : KyR H k v → KyR H' k v := fun ⟨b, e, h⟩ => ⟨b, e, g _ _ h⟩
theorem paired_keys {α β γ : Type} {F : α → γ → Prop} : ∀ {kvs : List (α × β)} {bs : List γ}, Paired (fun (kv : α × β) b => F kv.1 b) kvs bs → Paired F (kvs.map (·.1)) bs
  | _, _, .nil => .nil
  | _, _, .cons h t => .cons h (paired_keys t)
def spOnce (K : PySem.W.Frag) : Sp := fun vs H Q _ => ∃ p, vs = [.ref p] ∧ ((∃ ns : List Int, SqL K H p (ns.map V.int) ∧ ns.length ≤ 999 ∧ ∀ l H', Same H H' → H l = none → H' l = some (.lst ((onceM ns).map V.int)) → Q (.ref l) H') ∨
  ∃ (ys : List V) (ks : List (List Key)), SqL K H p ys ∧ Paired (KyR H) ks ys ∧ ks.length ≤ 999 ∧ ∀ l H' (bs : List Addr), Same H H' → H l = none → H' l = some (.lst (bs.map V.ref)) → Paired (fun k b => H' b = some (.tup (k.map kV))) (onceM ks) bs → Q (.ref l) H')
def kpM (n : Int) (M T : List Mk) : List Mk := M.flatMap fun m => (onceM (T.map (·.1))).map fun q => (m.1 * n + q, m.2)
abbrev Mv := Int × Str × Int
def mvOf (t : Stp) : Mv := (t.1, t.2.1, t.2.2.2)
def mvs (T : List Stp) : List Mv := onceM (T.map mvOf)
def onT (n : Int) (t : Stp) (u : Mv) : Stp := (t.1 * n + u.1, t.2.1, t.2.2.1, t.2.2.2 * n + u.2.2)
def kpT (n : Int) (S T : List Stp) : List Stp := S.flatMap fun t => ((mvs T).filter fun u => decide (u.2.1 = t.2.1)).map (onT n t)
def kpS (s u : Scr) : Scr := ⟨s.signs, s.rooms * u.rooms, kpM u.rooms s.begins u.begins, kpT u.rooms s.steps u.steps, kpM u.rooms s.ends u.ends⟩
structure Sm (s : Scr) : Prop where
  lb : s.begins.length ≤ 99
  ls : s.steps.length ≤ 99
  le : s.ends.length ≤ 99
def Nm (n : Int) : Prop := 0 ≤ n ∧ n ≤ 1000000
def MkL (K : PySem.W.Frag) (H : Hp) (p : Addr) (M : List Mk) : Prop := ∃ xs, SqL K H p xs ∧ Paired (MkV K H) M xs
def StL (K : PySem.W.Frag) (H : Hp) (p : Addr) (M : List Stp) : Prop := ∃ xs, SqL K H p xs ∧ Paired (StV K H) M xs
theorem MkL.mono {K : PySem.W.Frag} {H H' : Hp} {p : Addr} {M : List Mk} (g : Same H H') : MkL K H p M → MkL K H' p M := fun ⟨xs, h1, h2⟩ => ⟨xs, g.seq h1, paired_mono (fun _ _ => MkV.mono (Same.grow g)) h2⟩
theorem StL.mono {K : PySem.W.Frag} {H H' : Hp} {p : Addr} {M : List Stp} (g : Same H H') : StL K H p M → StL K H' p M := fun ⟨xs, h1, h2⟩ => ⟨xs, g.seq h1, paired_mono (fun _ _ => StV.mono (Same.grow g)) h2⟩
def StW (K : PySem.W.Frag) (H : Hp) (p : Addr) (M : List Stp) : Prop := ∃ xs, H p = some (.lst xs) ∧ Paired (StV K H) M xs
def spKeptM (K : PySem.W.Frag) : Sp := fun vs H Q _ => ∃ (p o : Addr) (n : Int) (M T : List Mk), vs = [.ref p, .ref o, .int n] ∧ MkL K H p M ∧ MkL K H o T ∧ M.length ≤ 99 ∧ T.length ≤ 99 ∧ Nm n ∧ ∀ l H', Same H H' → H l = none → BgH H' l (kpM n M T) → Q (.ref l) H'
def PrV (K : PySem.W.Frag) (H : Hp) (u : Mv) (v : V) : Prop := ∃ b, v = .ref b ∧ SqT K H b [.int u.1, .int u.2.2]
theorem prv_gt (K : PySem.W.Frag) (H H' : Hp) (t : Mv) (v : V) (g : GT H H') (h : PrV K H t v) : PrV K H' t v := let ⟨b, e, h⟩ := h; ⟨b, e, g.seqT h⟩
def mvKey (u : Mv) : Key := Sum.inr u.2.1
def MovD (K : PySem.W.Frag) (H0 H : Hp) (ms : List Mv) (v : V) : Prop := ∃ d kvs, v = .ref d ∧ H d = some (.dK kvs) ∧ Bk (PrV K) mvKey H0 H d ms kvs
theorem MovD.mono {K : PySem.W.Frag} {H0 H H' : Hp} {ms : List Mv} {v : V} (g : Same H H') : MovD K H0 H ms v → MovD K H0 H' ms v := fun ⟨d, kvs, e, h, b⟩ => ⟨d, kvs, e, g _ _ h, b.mono (prv_gt K) g⟩
def spMoves (K : PySem.W.Frag) : Sp := fun vs H Q _ => ∃ (p : Addr) (T : List Stp), vs = [.ref p] ∧ StL K H p T ∧ T.length ≤ 99 ∧ ∀ v H', Same H H' → MovD K H H' (mvs T) v → Q v H'
def spKeptS (K : PySem.W.Frag) : Sp := fun vs H Q _ => ∃ (p o : Addr) (n : Int) (M T : List Stp), vs = [.ref p, .ref o, .int n] ∧ StL K H p M ∧ StL K H o T ∧ M.length ≤ 99 ∧ T.length ≤ 99 ∧ Nm n ∧ ∀ l H', Same H H' → H l = none → StW K H' l (kpT n M T) → Q (.ref l) H'
def spPairsN (K : PySem.W.Frag) (c : Addr) : Sp := fun vs H Q E => ∃ v s pb ps pe w u qb qs qe, vs = [v, w] ∧ ScV K H s v pb ps pe ∧ ScV K H u w qb qs qe ∧ Nm s.rooms ∧ (s.rooms * u.rooms ≤ 200 → Q .non H) ∧ (200 < s.rooms * u.rooms → E (.ref c) none H)
def spKept (K : PySem.W.Frag) (c c2 : Addr) : Sp := fun vs H Q E => ∃ v s pb ps pe w u qb qs qe, vs = [v, w] ∧ ScV K H s v pb ps pe ∧ ScV K H u w qb qs qe ∧ Sm s ∧ Sm u ∧ Nm s.rooms ∧ Nm u.rooms ∧ (s.signs ≠ u.signs → E (.ref c) none H) ∧ (s.signs = u.signs → 200 < s.rooms * u.rooms → E (.ref c2) none H) ∧
  (s.signs = u.signs → s.rooms * u.rooms ≤ 200 → ∀ v' H' pb' ps' pe', Same H H' → ScN K H' (kpS s u) v' pb' ps' pe' → Apart H pb' ps' pe' → BgH H' pb' (kpS s u).begins → Q v' H')
theorem kpM_len (n : Int) (T : List Mk) (h : T.length ≤ 99) : ∀ M : List Mk, (kpM n M T).length ≤ 99 * M.length
  | [] => Nat.zero_le _
  | m :: M => by
    have ih := kpM_len n T h M
    have h1 := once_len (T.map (·.1))
    unfold kpM at ih ⊢
    rw [List.flatMap_cons, List.length_append, List.length_map, List.length_cons]
    rw [List.length_map] at h1
    omega
theorem kpT_len (n : Int) (T : List Stp) (h : T.length ≤ 99) : ∀ M : List Stp, (kpT n M T).length ≤ 99 * M.length
  | [] => Nat.zero_le _
  | m :: M => by
    have ih := kpT_len n T h M
    have h1 := once_len (T.map mvOf)
    have h2 := List.length_filter_le (fun u : Mv => decide (u.2.1 = m.2.1)) (mvs T)
    unfold kpT at ih ⊢
    rw [List.flatMap_cons, List.length_append, List.length_map, List.length_cons]
    rw [List.length_map] at h1
    unfold mvs at h2 ih ⊢
    omega
theorem kpM_take {n : Int} {M T : List Mk} {i : Nat} {m : Mk} (h : M[i]? = some m) : kpM n (M.take (i + 1)) T = kpM n (M.take i) T ++ (onceM (T.map (·.1))).map fun q => (m.1 * n + q, m.2) := by
  unfold kpM
  rw [take_get h, List.flatMap_append, List.flatMap_singleton]
theorem kpT_take {n : Int} {M T : List Stp} {i : Nat} {t : Stp} (h : M[i]? = some t) : kpT n (M.take (i + 1)) T = kpT n (M.take i) T ++ ((mvs T).filter fun u => decide (u.2.1 = t.2.1)).map (onT n t) := by
  unfold kpT
  rw [take_get h, List.flatMap_append, List.flatMap_singleton]

def k3 (u : Mv) : List Key := [Sum.inl u.1, Sum.inr u.2.1, Sum.inl u.2.2]
theorem k3_inj (a b : Mv) (h : k3 a = k3 b) : a = b := by
  obtain ⟨a1, a2, a3⟩ := a
  obtain ⟨b1, b2, b3⟩ := b
  unfold k3 at h
  simp only [List.cons.injEq, Sum.inl.injEq, Sum.inr.injEq, and_true] at h
  obtain ⟨h1, h2, h3⟩ := h
  subst h1 h2 h3
  rfl
theorem once_map {α β : Type} [DecidableEq α] [DecidableEq β] {f : α → β} (inj : ∀ a b, f a = f b → a = b) (xs : List α) : onceM (xs.map f) = (onceM xs).map f := by
  have go : ∀ (xs acc : List α), (xs.map f).foldl addM (acc.map f) = (xs.foldl addM acc).map f := by
    intro xs
    induction xs with
    | nil => intro acc; rfl
    | cons x xs ih => intro acc; rw [List.map_cons, List.foldl_cons, List.foldl_cons, ← add_map inj, ih]
  exact go xs []

theorem MovD.get3 {K : PySem.W.Frag} {H0 H1 H : Hp} {ms : List Mv} {v : V} {g : Str} {l : Addr} (h : MovD K H0 H1 ms v) (s : Same H1 H) (hl : H l = some (.lst [])) :
    ∃ d o la ys, v = .ref d ∧ DGet H d (.str g) o ∧ o.getD (.ref l) = .ref la ∧ H la = some (.lst ys) ∧ Paired (PrV K H) (ms.filter (fun t => decide (t.2.1 = g))) ys ∧ (la = l ∨ ∃ u, H1 la = some u) := by
  obtain ⟨d, kvs, e, h1, b⟩ := h
  have hf : ms.filter (fun t => decide (mvKey t = Sum.inr g)) = ms.filter (fun t => decide (t.2.1 = g)) := by
    congr 1
    funext t
    exact decide_eq_decide.mpr ⟨fun z => by injection z, fun z => by unfold mvKey; rw [z]⟩
  have hg : DGet H d (.str g) (valV kvs (Sum.inr g)) := DGet.k (k := Sum.inr g) (s _ _ h1)
  cases ho : valV kvs (Sum.inr g) with
  | none => exact ⟨d, none, l, [], e, ho ▸ hg, rfl, hl, by rw [← hf, b.nokey _ ho]; exact .nil, .inl rfl⟩
  | some u =>
    obtain ⟨l1, ys, rfl, _, _, h4, h5, _⟩ := b.there _ _ ho
    exact ⟨d, _, l1, ys, e, ho ▸ hg, rfl, s _ _ h4, by rw [← hf]; exact paired_mono (fun _ _ => prv_gt K _ _ _ _ (GT.of s)) h5, .inr ⟨_, h4⟩⟩

def rvM (m : Mk) : Mk := (m.1, rvS m.2)
def rvT (t : Stp) : Stp := (t.2.2.2, t.2.1, rvS t.2.2.1, t.1)
def mirS (s : Scr) : Scr := ⟨s.signs, s.rooms, s.ends.map rvM, s.steps.map rvT, s.begins.map rvM⟩
theorem rvM_rvM (m : Mk) : rvM (rvM m) = m := by unfold rvM; rw [rvS_rvS]
theorem rvT_rvT (t : Stp) : rvT (rvT t) = t := by unfold rvT; rw [rvS_rvS]
theorem mir_mir (s : Scr) : mirS (mirS s) = s := by
  obtain ⟨g, r, B, S, E⟩ := s
  have h1 : ∀ l : List Mk, (l.map rvM).map rvM = l := fun l => by
    rw [List.map_map]
    have : rvM ∘ rvM = id := funext rvM_rvM
    rw [this, List.map_id]
  have h2 : ∀ l : List Stp, (l.map rvT).map rvT = l := fun l => by
    rw [List.map_map]
    have : rvT ∘ rvT = id := funext rvT_rvT
    rw [this, List.map_id]
  show (⟨g, r, (B.map rvM).map rvM, (S.map rvT).map rvT, (E.map rvM).map rvM⟩ : Scr) = _
  rw [h1, h2, h1]
structure Bd (s : Scr) : Prop where
  lb : s.begins.length ≤ 999
  ls : s.steps.length ≤ 999
  le : s.ends.length ≤ 999
  wb : ∀ m ∈ s.begins, m.2.length ≤ 40
  ws : ∀ t ∈ s.steps, t.2.2.1.length ≤ 40
  we : ∀ m ∈ s.ends, m.2.length ≤ 40
theorem Bd.of {pl : Bool} {s : Scr} {n : Nat} (ok : OkS pl s n) (hn : n ≤ 999) : Bd s :=
  ⟨Nat.le_trans ok.lb hn, Nat.le_trans ok.ls hn, Nat.le_trans ok.le hn, fun m hm => (ok.mb m hm).2.2.1, fun t ht => (ok.ms t ht).2.2.2.1.1, fun m hm => (ok.me m hm).2.2.1⟩
def spTurn : Sp := fun vs H Q _ => ∃ w : Str, vs = [.str w] ∧ w.length ≤ 40 ∧ Q (.str (rvS w)) H
def spMir (K : PySem.W.Frag) : Sp := fun vs H Q _ => ∃ v s pb ps pe, vs = [v] ∧ ScV K H s v pb ps pe ∧ Bd s ∧ ∀ v' H' pb' ps' pe', Same H H' → ScN K H' (mirS s) v' pb' ps' pe' → Apart H pb' ps' pe' → BgH H' pb' (mirS s).begins → Q v' H'

theorem len_bnd : ∀ (N : Nat) (xs : List Int), xs.Nodup → (∀ x ∈ xs, 0 ≤ x ∧ x < (N : Int)) → xs.length ≤ N
  | 0, [], _, _ => Nat.le_refl _
  | 0, x :: xs, _, h => by have := h x (List.mem_cons_self ..); omega
  | N + 1, xs, nd, h => by
    have := len_bnd N (xs.filter (fun x => decide (x ≠ (N : Int)))) (nd.filter _) (fun x hx => by
      have hx := List.mem_filter.mp hx
      have h1 := h x hx.1
      have h2 := of_decide_eq_true hx.2
      omega)
    by_cases c : (N : Int) ∈ xs
    · have e : xs.length = (xs.erase (N : Int)).length + 1 := by rw [List.length_erase_of_mem c]; have := List.length_pos_of_mem c; omega
      have e2 : xs.erase (N : Int) = xs.filter (fun x => decide (x ≠ (N : Int))) := by rw [List.Nodup.erase_eq_filter nd]; congr 1; funext x; by_cases z : x = (N : Int) <;> simp [z]
      rw [e, e2]; omega
    · have e2 : xs.filter (fun x => decide (x ≠ (N : Int))) = xs := List.filter_eq_self.mpr fun x hx => decide_eq_true (fun z => c (by rw [← z]; exact hx))
      rw [e2] at this; omega
structure OkR (s : Scr) : Prop where
  lb : s.begins.length ≤ 999
  ls : s.steps.length ≤ 999
  le : s.ends.length ≤ 999
  lr : s.rooms ≤ 999
  mb : ∀ m ∈ s.begins, 0 ≤ m.1 ∧ m.1 < s.rooms
  ms : ∀ t ∈ s.steps, 0 ≤ t.1 ∧ t.1 < s.rooms ∧ 0 ≤ t.2.2.2 ∧ t.2.2.2 < s.rooms
  me : ∀ m ∈ s.ends, 0 ≤ m.1 ∧ m.1 < s.rooms

theorem on_iff {ts : List Stp} {k : Nat} {c m : Mk} : m ∈ onM ts k c ↔ ∃ t, t ∈ ts ∧ t.1 = c.1 ∧ t.2.1 = ⟨#[k]⟩ ∧ m = (t.2.2.2, c.2 ++ t.2.2.1) := by
  unfold onM
  rw [List.mem_map]
  constructor
  · rintro ⟨t, ht, rfl⟩
    obtain ⟨h1, h2⟩ := List.mem_filter.mp ht
    have := of_decide_eq_true h2
    unfold stKey at this
    injection this with h1' h2'
    injection h1' with h1'
    injection h2' with h2'
    injection h2' with h2'
    exact ⟨t, h1, h1', h2', rfl⟩
  · rintro ⟨t, h1, h2, h3, rfl⟩
    refine ⟨t, List.mem_filter.mpr ⟨h1, ?_⟩, rfl⟩
    unfold stKey; rw [h2, h3]; exact decide_eq_true rfl
theorem behind_iff {ts : List Stp} {P : List Mk} {k : Nat} {m : Mk} : m ∈ behindM ts P k ↔ ∃ c, c ∈ P ∧ ∃ t, t ∈ ts ∧ t.1 = c.1 ∧ t.2.1 = ⟨#[k]⟩ ∧ m = (t.2.2.2, c.2 ++ t.2.2.1) := by
  unfold behindM newsM
  rw [once_iff, List.mem_flatMap]
  exact ⟨fun ⟨c, h1, h2⟩ => ⟨c, h1, on_iff.mp h2⟩, fun ⟨c, h1, h2⟩ => ⟨c, h1, on_iff.mpr h2⟩⟩
theorem words_iff {s : Scr} {P : List Mk} {x : Str} : x ∈ wordsM s P ↔ ∃ c, c ∈ P ∧ ∃ e, e ∈ s.ends ∧ e.1 = c.1 ∧ x = c.2 ++ e.2 := by
  unfold wordsM wOnM
  rw [once_iff, List.mem_flatMap]
  constructor
  · rintro ⟨c, h1, h2⟩
    obtain ⟨e, he, rfl⟩ := List.mem_map.mp h2
    obtain ⟨h3, h4⟩ := List.mem_filter.mp he
    have := of_decide_eq_true h4
    unfold mkKey at this
    injection this with this
    exact ⟨c, h1, e, h3, this, rfl⟩
  · rintro ⟨c, h1, e, h2, h3, rfl⟩
    refine ⟨c, h1, List.mem_map.mpr ⟨e, List.mem_filter.mpr ⟨h2, ?_⟩, rfl⟩⟩
    unfold mkKey; rw [h3]; exact decide_eq_true rfl

theorem cut_ints (ns : List Int) (lo hi : Option Int) : ∃ ms : List Int, cutV (ns.map V.int) lo hi = ms.map V.int ∧ ms.length ≤ ns.length := by
  refine ⟨(ns.drop (HT.sIx (ns.map V.int).length 0 lo)).take (HT.sIx (ns.map V.int).length (ns.map V.int).length hi - HT.sIx (ns.map V.int).length 0 lo), ?_, ?_⟩
  · unfold cutV; rw [← List.map_drop, ← List.map_take]
  · rw [List.length_take, List.length_drop]; omega
theorem cut_24 (ns : List Int) (h : ns.length ≤ 63) : ∃ ms : List Int, cutV (ns.map V.int) (some 24) (some 64) = ms.map V.int ∧ ms.length ≤ 62 := by
  refine ⟨(ns.drop (HT.sIx (ns.map V.int).length 0 (some 24))).take (HT.sIx (ns.map V.int).length (ns.map V.int).length (some 64) - HT.sIx (ns.map V.int).length 0 (some 24)), ?_, ?_⟩
  · unfold cutV; rw [← List.map_drop, ← List.map_take]
  · rw [List.length_take, List.length_drop, List.length_map]
    by_cases c : ns.length = 63
    · rw [c]
      have e : HT.sIx 63 0 (some 24) = 24 := by decide
      rw [e]; omega
    · omega
theorem cut_one (ns : List Int) (h : ns.length ≤ 63) : ∃ ms : List Int, cutV (ns.map V.int) none (some 1) = ms.map V.int ∧ ms.length ≤ 1 := by
  refine ⟨ns.take 1, ?_, by rw [List.length_take]; omega⟩
  have e : ∀ xs : List V, xs.length ≤ 63 → cutV xs none (some 1) = xs.take 1 := fun xs hx => by
    cases xs with
    | nil => rfl
    | cons x xs =>
      have h1 : HT.sIx (x :: xs).length 0 none = 0 := rfl
      have h2 : HT.sIx (x :: xs).length (x :: xs).length (some 1) = 1 := by
        unfold HT.sIx
        simp
      unfold cutV
      rw [h1, h2]; rfl
  rw [e _ (by rw [List.length_map]; exact h), ← List.map_take]

inductive Pth (s : Scr) : Int → List Nat → Str → Int → Prop
  | nil (r : Int) : Pth s r [] "" r
  | cons {k : Nat} {ks : List Nat} {w : Str} {t : Stp} {r' : Int} (ht : t ∈ s.steps) (hk : t.2.1 = ⟨#[k]⟩) (h : Pth s t.2.2.2 ks w r') : Pth s t.1 (k :: ks) (t.2.2.1 ++ w) r'
def Wr (s : Scr) (ks : List Nat) (x : Str) : Prop := ∃ b, b ∈ s.begins ∧ ∃ e, e ∈ s.ends ∧ ∃ w, Pth s b.1 ks w e.1 ∧ x = b.2 ++ (w ++ e.2)
theorem run_mem {s : Scr} : ∀ (ks : List Nat) {P Z : List Mk}, ks.foldl (gwM s) (some P) = some Z → ∀ m, m ∈ Z ↔ ∃ c, c ∈ P ∧ ∃ w, Pth s c.1 ks w m.1 ∧ m.2 = c.2 ++ w
  | [], P, Z, h, m => by
    cases h
    constructor
    · exact fun hm => ⟨m, hm, "", .nil _, (app_nil _).symm⟩
    · rintro ⟨c, hc, w, hp, e⟩
      have e1 : c = m := by
        obtain ⟨m1, m2⟩ := m
        obtain ⟨c1, c2⟩ := c
        cases hp
        rw [app_nil] at e
        exact congrArg (Prod.mk _) e.symm
      exact e1 ▸ hc
  | k :: ks, P, Z, h, m => by
    rw [List.foldl_cons] at h
    have e0 : gwM s (some P) k = if (behindM s.steps P k).length ≤ 200 then some (behindM s.steps P k) else none := rfl
    rw [e0] at h
    by_cases c : (behindM s.steps P k).length ≤ 200
    · rw [if_pos c] at h
      rw [run_mem ks h m]
      constructor
      · rintro ⟨c1, hc1, w, hp, e⟩
        obtain ⟨c, hc, t, ht, e1, e2, rfl⟩ := behind_iff.mp hc1
        exact ⟨c, hc, t.2.2.1 ++ w, e1 ▸ Pth.cons ht e2 hp, by rw [e]; exact app_assoc _ _ _⟩
      · rintro ⟨c, hc, w, hp, e⟩
        generalize hr : c.1 = r at hp
        cases hp with
        | @cons _ _ w t _ ht hk hp => exact ⟨(t.2.2.2, c.2 ++ t.2.2.1), behind_iff.mpr ⟨c, hc, t, ht, hr.symm, hk, rfl⟩, w, hp, by rw [e]; exact (app_assoc _ _ _).symm⟩
    · rw [if_neg c, run_none] at h
      cases h
theorem words_wr {s : Scr} {ks : List Nat} {P : List Mk} (h : rwM s ks = some P) (x : Str) : x ∈ wordsM s P ↔ Wr s ks x := by
  rw [words_iff]
  constructor
  · rintro ⟨c, hc, e, he, e1, rfl⟩
    obtain ⟨b, hb, w, hp, e2⟩ := (run_mem ks h c).mp hc
    exact ⟨b, once_iff.mp hb, e, he, w, e1 ▸ hp, by rw [e2]; exact app_assoc _ _ _⟩
  · rintro ⟨b, hb, e, he, w, hp, rfl⟩
    exact ⟨(e.1, b.2 ++ w), (run_mem ks h _).mpr ⟨b, once_iff.mpr hb, w, hp, rfl⟩, e, he, rfl, (app_assoc _ _ _).symm⟩
theorem Pth.snoc {s : Scr} {r r1 : Int} {ks : List Nat} {w : Str} {k : Nat} {t : Stp} (h : Pth s r ks w r1) (ht : t ∈ s.steps) (hk : t.2.1 = ⟨#[k]⟩) (hr : t.1 = r1) : Pth s r (ks ++ [k]) (w ++ t.2.2.1) t.2.2.2 := by
  induction h with
  | nil r =>
    subst hr
    rw [nil_app, ← app_nil t.2.2.1]
    exact Pth.cons ht hk (.nil _)
  | @cons k0 ks w0 t0 r' ht0 hk0 _ ih =>
    rw [app_assoc]
    exact Pth.cons ht0 hk0 (ih hr)
theorem rvS_app (a b : Str) : rvS (a ++ b) = rvS b ++ rvS a := str_ext (by rw [cl_rvS, cl_append, List.reverse_append, cl_append, cl_rvS, cl_rvS])
theorem rvS_nil : rvS "" = "" := str_ext (by rw [cl_rvS]; decide +kernel)
theorem pth_mir {s : Scr} {r r' : Int} {ks : List Nat} {w : Str} (h : Pth s r ks w r') : Pth (mirS s) r' ks.reverse (rvS w) r := by
  induction h with
  | nil r => rw [rvS_nil]; exact .nil r
  | @cons k ks w t r' ht hk _ ih =>
    rw [List.reverse_cons, rvS_app]
    exact ih.snoc (t := rvT t) (List.mem_map.mpr ⟨t, ht, rfl⟩) hk rfl
theorem wr_mir {s : Scr} {ks : List Nat} {x : Str} (h : Wr s ks x) : Wr (mirS s) ks.reverse (rvS x) := by
  obtain ⟨b, hb, e, he, w, hp, rfl⟩ := h
  exact ⟨rvM e, List.mem_map.mpr ⟨e, he, rfl⟩, rvM b, List.mem_map.mpr ⟨b, hb, rfl⟩, rvS w, pth_mir hp, by rw [rvS_app, rvS_app]; exact app_assoc _ _ _⟩
theorem mir_words {s : Scr} {ks : List Nat} {P Z : List Mk} (h : rwM s ks = some P) (h' : rwM (mirS s) ks.reverse = some Z) : (wordsM (mirS s) Z).Perm ((wordsM s P).map rvS) := by
  refine (List.perm_ext_iff_of_nodup (once_nodup _) ?_).mpr fun y => ?_
  · exact List.Pairwise.map _ (fun a b hab e => hab (by rw [← rvS_rvS a, e, rvS_rvS])) (once_nodup _)
  rw [List.mem_map]
  have k1 := words_wr h' y
  constructor
  · intro hy
    have h2 := wr_mir (k1.mp hy)
    rw [mir_mir, List.reverse_reverse] at h2
    exact ⟨rvS y, (words_wr h _).mpr h2, rvS_rvS y⟩
  · rintro ⟨x, hx, rfl⟩
    exact k1.mpr (wr_mir ((words_wr h x).mp hx))
theorem pth_sub {s s' : Scr} {f : Int → Int} (hf : ∀ t, t ∈ s.steps → ∃ t', t' ∈ s'.steps ∧ t'.1 = f t.1 ∧ t'.2.1 = t.2.1 ∧ t'.2.2.1 = t.2.2.1 ∧ t'.2.2.2 = f t.2.2.2) {r r' : Int} {ks : List Nat} {w : Str} (h : Pth s r ks w r') : Pth s' (f r) ks w (f r') := by
  induction h with
  | nil r => exact .nil _
  | @cons k ks w t r' ht hk _ ih =>
    obtain ⟨t', h1, h2, h3, h4, h5⟩ := hf t ht
    rw [← h2, ← h4]
    exact Pth.cons h1 (h3.trans hk) (h5 ▸ ih)
theorem pth_bnd {s : Scr} (ok : OkR s) {r r' : Int} {ks : List Nat} {w : Str} (h : Pth s r ks w r') (hr : 0 ≤ r ∧ r < s.rooms) : 0 ≤ r' ∧ r' < s.rooms := by
  induction h with
  | nil r => exact hr
  | cons ht _ _ ih => exact ih (ok.ms _ ht).2.2
theorem pth_e1 {s u : Scr} (ok : OkR s) (ku : OkR u) {r r' : Int} {ks : List Nat} {w : Str} (h : Pth (eithS s u) r ks w r') : r < s.rooms → Pth s r ks w r' := by
  induction h with
  | nil r => exact fun _ => .nil r
  | @cons k ks w t r' ht hk _ ih =>
    intro hr
    rcases List.mem_append.mp ht with ht | ht
    · exact Pth.cons ht hk (ih (ok.ms t ht).2.2.2)
    · obtain ⟨t0, h0, rfl⟩ := List.mem_map.mp ht
      have := (ku.ms t0 h0).1
      have hr' : t0.1 + s.rooms < s.rooms := hr
      omega
theorem pth_e2 {s u : Scr} (ok : OkR s) (ku : OkR u) {r r' : Int} {ks : List Nat} {w : Str} (h : Pth (eithS s u) r ks w r') : ∀ q, 0 ≤ q → r = q + s.rooms → ∃ q', 0 ≤ q' ∧ r' = q' + s.rooms ∧ Pth u q ks w q' := by
  induction h with
  | nil r => exact fun q h0 e => ⟨q, h0, e, .nil q⟩
  | @cons k ks w t r' ht hk _ ih =>
    intro q h0 e
    rcases List.mem_append.mp ht with ht | ht
    · have := (ok.ms t ht).2.1
      omega
    · obtain ⟨t0, ht0, rfl⟩ := List.mem_map.mp ht
      obtain ⟨q', h1, h2, h3⟩ := ih t0.2.2.2 (ku.ms t0 ht0).2.2.1 rfl
      have e1 : t0.1 = q := by
        have e' : t0.1 + s.rooms = q + s.rooms := e
        omega
      exact ⟨q', h1, h2, e1 ▸ Pth.cons ht0 hk h3⟩
theorem wr_eith {s u : Scr} (ok : OkR s) (ku : OkR u) (ks : List Nat) (x : Str) : Wr (eithS s u) ks x ↔ Wr s ks x ∨ Wr u ks x := by
  constructor
  · rintro ⟨b, hb, e, he, w, hp, rfl⟩
    rcases List.mem_append.mp hb with hb | hb
    · have hp1 := pth_e1 ok ku hp (ok.mb b hb).2
      have hx := pth_bnd ok hp1 (ok.mb b hb)
      rcases List.mem_append.mp he with he | he
      · exact .inl ⟨b, hb, e, he, w, hp1, rfl⟩
      · obtain ⟨e0, h0, rfl⟩ := List.mem_map.mp he
        have h1 := (ku.me e0 h0).1
        have h2 : e0.1 + s.rooms < s.rooms := hx.2
        omega
    · obtain ⟨b0, hb0, rfl⟩ := List.mem_map.mp hb
      obtain ⟨q', h1, h2, h3⟩ := pth_e2 ok ku hp b0.1 (ku.mb b0 hb0).1 rfl
      rcases List.mem_append.mp he with he | he
      · have := (ok.me e he).2
        omega
      · obtain ⟨e0, he0, rfl⟩ := List.mem_map.mp he
        have e1 : e0.1 = q' := by
          have h2' : e0.1 + s.rooms = q' + s.rooms := h2
          omega
        exact .inr ⟨b0, hb0, e0, he0, w, e1 ▸ h3, rfl⟩
  · rintro (⟨b, hb, e, he, w, hp, rfl⟩ | ⟨b, hb, e, he, w, hp, rfl⟩)
    · exact ⟨b, List.mem_append_left _ hb, e, List.mem_append_left _ he, w, pth_sub (f := id) (fun t ht => ⟨t, List.mem_append_left _ ht, rfl, rfl, rfl, rfl⟩) hp, rfl⟩
    · exact ⟨shM s.rooms b, List.mem_append_right _ (List.mem_map.mpr ⟨b, hb, rfl⟩), shM s.rooms e, List.mem_append_right _ (List.mem_map.mpr ⟨e, he, rfl⟩), w, pth_sub (f := (· + s.rooms)) (fun t ht => ⟨shT s.rooms t, List.mem_append_right _ (List.mem_map.mpr ⟨t, ht, rfl⟩), rfl, rfl, rfl, rfl⟩) hp, rfl⟩
theorem prod_un {n a b c d : Int} (hb : 0 ≤ b ∧ b < n) (hd : 0 ≤ d ∧ d < n) (h : a * n + b = c * n + d) : a = c ∧ b = d := by
  have hn : n ≠ 0 := by omega
  have e : ∀ x y : Int, 0 ≤ y ∧ y < n → (x * n + y) / n = x := fun x y hy => by
    rw [Int.add_comm, Int.add_mul_ediv_right _ _ hn, Int.ediv_eq_zero_of_lt hy.1 hy.2, Int.zero_add]
  have e1 : a = c := by rw [← e a b hb, h, e c d hd]
  subst e1
  exact ⟨rfl, by omega⟩
theorem kpM_iff {n : Int} {M T : List Mk} {m' : Mk} : m' ∈ kpM n M T ↔ ∃ m, m ∈ M ∧ ∃ t, t ∈ T ∧ m' = (m.1 * n + t.1, m.2) := by
  unfold kpM
  rw [List.mem_flatMap]
  constructor
  · rintro ⟨m, hm, h⟩
    obtain ⟨q, hq, rfl⟩ := List.mem_map.mp h
    obtain ⟨t, ht, rfl⟩ := List.mem_map.mp (once_iff.mp hq)
    exact ⟨m, hm, t, ht, rfl⟩
  · rintro ⟨m, hm, t, ht, rfl⟩
    exact ⟨m, hm, List.mem_map.mpr ⟨t.1, once_iff.mpr (List.mem_map.mpr ⟨t, ht, rfl⟩), rfl⟩⟩
theorem kpT_iff {n : Int} {S T : List Stp} {t' : Stp} : t' ∈ kpT n S T ↔ ∃ t, t ∈ S ∧ ∃ v, v ∈ T ∧ v.2.1 = t.2.1 ∧ t' = (t.1 * n + v.1, t.2.1, t.2.2.1, t.2.2.2 * n + v.2.2.2) := by
  unfold kpT mvs
  rw [List.mem_flatMap]
  constructor
  · rintro ⟨t, ht, h⟩
    obtain ⟨m, hm, rfl⟩ := List.mem_map.mp h
    obtain ⟨h1, h2⟩ := List.mem_filter.mp hm
    obtain ⟨v, hv, rfl⟩ := List.mem_map.mp (once_iff.mp h1)
    exact ⟨t, ht, v, hv, of_decide_eq_true h2, rfl⟩
  · rintro ⟨t, ht, v, hv, e, rfl⟩
    exact ⟨t, ht, List.mem_map.mpr ⟨mvOf v, List.mem_filter.mpr ⟨once_iff.mpr (List.mem_map.mpr ⟨v, hv, rfl⟩), decide_eq_true e⟩, rfl⟩⟩
theorem pth_k1 {s u : Scr} (ku : OkR u) {R R' : Int} {ks : List Nat} {w : Str} (h : Pth (kpS s u) R ks w R') : ∀ r q, 0 ≤ q ∧ q < u.rooms → R = r * u.rooms + q → ∃ r' q', (0 ≤ q' ∧ q' < u.rooms) ∧ R' = r' * u.rooms + q' ∧ Pth s r ks w r' ∧ ∃ w2, Pth u q ks w2 q' := by
  induction h with
  | nil R => exact fun r q hq e => ⟨r, q, hq, e, .nil r, "", .nil q⟩
  | @cons k ks w t' R' ht hk _ ih =>
    intro r q hq e
    obtain ⟨t, h1, v, h2, h3, rfl⟩ := kpT_iff.mp ht
    have vb := ku.ms v h2
    obtain ⟨e1, e2⟩ := prod_un ⟨vb.1, vb.2.1⟩ hq e
    obtain ⟨r', q', k1, k2, k3, w2, k4⟩ := ih t.2.2.2 v.2.2.2 vb.2.2 rfl
    exact ⟨r', q', k1, k2, e1 ▸ Pth.cons h1 hk k3, _, e2 ▸ Pth.cons h2 (h3.trans hk) k4⟩
theorem pth_k2 {s u : Scr} {r r' : Int} {ks : List Nat} {w : Str} (h : Pth s r ks w r') : ∀ {q q' w2}, Pth u q ks w2 q' → Pth (kpS s u) (r * u.rooms + q) ks w (r' * u.rooms + q') := by
  induction h with
  | nil r =>
    intro q q' w2 h2
    cases h2
    exact .nil _
  | @cons k ks w t r' ht hk _ ih =>
    intro q q' w2 h2
    cases h2 with
    | @cons _ _ w3 v _ hv hk2 h3 => exact Pth.cons (t := (t.1 * u.rooms + v.1, t.2.1, t.2.2.1, t.2.2.2 * u.rooms + v.2.2.2)) (kpT_iff.mpr ⟨t, ht, v, hv, hk2.trans hk.symm, rfl⟩) hk (ih h3)
theorem wr_kept {s u : Scr} (ku : OkR u) (ks : List Nat) (x : Str) : Wr (kpS s u) ks x ↔ Wr s ks x ∧ ∃ y, Wr u ks y := by
  constructor
  · rintro ⟨b, hb, e, he, w, hp, rfl⟩
    obtain ⟨b0, hb0, b1, hb1, rfl⟩ := kpM_iff.mp hb
    obtain ⟨e0, he0, e1, he1, rfl⟩ := kpM_iff.mp he
    obtain ⟨r', q', k1, k2, k3, w2, k4⟩ := pth_k1 ku hp b0.1 b1.1 (ku.mb b1 hb1) rfl
    obtain ⟨f1, f2⟩ := prod_un (ku.me e1 he1) k1 k2
    exact ⟨⟨b0, hb0, e0, he0, w, f1 ▸ k3, rfl⟩, _, b1, hb1, e1, he1, w2, f2 ▸ k4, rfl⟩
  · rintro ⟨⟨b, hb, e, he, w, hp, rfl⟩, y, b1, hb1, e1, he1, w2, hp2, rfl⟩
    exact ⟨(b.1 * u.rooms + b1.1, b.2), kpM_iff.mpr ⟨b, hb, b1, hb1, rfl⟩, (e.1 * u.rooms + e1.1, e.2), kpM_iff.mpr ⟨e, he, e1, he1, rfl⟩, w, pth_k2 hp hp2, rfl⟩
theorem okR_of {pl : Bool} {s : Scr} (ok : OkS pl s 62) (r1 : s.rooms ≤ 14) : OkR s :=
  ⟨Nat.le_trans ok.lb (by decide), Nat.le_trans ok.ls (by decide), Nat.le_trans ok.le (by decide), by omega, fun m hm => ⟨(ok.mb m hm).1, (ok.mb m hm).2.1⟩, fun t ht => ⟨(ok.ms t ht).1, (ok.ms t ht).2.1, (ok.ms t ht).2.2.2.2.1, (ok.ms t ht).2.2.2.2.2⟩, fun m hm => ⟨(ok.me m hm).1, (ok.me m hm).2.1⟩⟩
theorem short_of {pl : Bool} {s : Scr} {n : Nat} (ok : OkS pl s n) : Short s := by
  refine ⟨fun m hm => ?_, fun t ht => ⟨?_, ?_⟩, fun m hm => ?_⟩
  · have := (ok.mb m hm).2.2.1; omega
  · obtain ⟨c, _, e⟩ := (ok.ms t ht).2.2.1
    rw [e, one_len]; omega
  · have := (ok.ms t ht).2.2.2.1.1; omega
  · have := (ok.me m hm).2.2.1; omega
def WRes (s : Scr) (ks : List Nat) (v : V) (H : Hp) : Prop := (v = .non ∧ rwM s ks = none) ∨ ∃ (P : List Mk) (l : Addr) (ss : List Str), v = .ref l ∧ rwM s ks = some P ∧ ss.Perm (wordsM s P) ∧ ss.Pairwise leT ∧ H l = some (.lst (ss.map V.str))
theorem any_strs (x : Str) : ∀ ns : List Str, inV (V.str x) (ns.map V.str) = decide (x ∈ ns)
  | [] => rfl
  | n :: ns => by
    have ih := any_strs x ns
    unfold inV at ih ⊢
    rw [List.map_cons, List.any_cons, ih]
    have e : eqV (V.str n) (V.str x) = decide (n = x) := by
      by_cases z : n = x
      · subst z; simp [eqV]
      · simp [eqV, z]
    rw [e]
    by_cases z : n = x
    · subst z; simp
    · have z' : ¬ x = n := fun y => z y.symm
      simp [z, z']
theorem pth_len {s : Scr} (sh : Short s) {r r' : Int} {ks : List Nat} {w : Str} (h : Pth s r ks w r') : w.length ≤ 100 * ks.length := by
  induction h with
  | nil r => exact Nat.zero_le _
  | @cons k ks w t r' ht hk _ ih =>
    have := (sh.2.1 t ht).2
    rw [len_app, List.length_cons]; omega
theorem wr_len {s : Scr} (sh : Short s) {ks : List Nat} {x : Str} (h : Wr s ks x) : x.length ≤ 100 * ks.length + 200 := by
  obtain ⟨b, hb, e, he, w, hp, rfl⟩ := h
  have h1 := sh.1 b hb
  have h2 := sh.2.2 e he
  have h3 := pth_len sh hp
  rw [len_app, len_app]; omega
theorem rw_len {s : Scr} : ∀ (ks : List Nat) {P Z : List Mk}, ks.foldl (gwM s) (some P) = some Z → P.length ≤ 999 → Z.length ≤ 999
  | [], P, Z, h, hl => by cases h; exact hl
  | k :: ks, P, Z, h, hl => by
    rw [List.foldl_cons] at h
    have e0 : gwM s (some P) k = if (behindM s.steps P k).length ≤ 200 then some (behindM s.steps P k) else none := rfl
    rw [e0] at h
    by_cases c : (behindM s.steps P k).length ≤ 200
    · rw [if_pos c] at h
      exact rw_len ks h (by omega)
    · rw [if_neg c, run_none] at h
      cases h
theorem words_len {s : Scr} {ks : List Nat} {P : List Mk} (h : rwM s ks = some P) (lb : s.begins.length ≤ 62) (le : s.ends.length ≤ 62) : (wordsM s P).length ≤ 62 * 999 := by
  have h1 := rw_len ks h (Nat.le_trans (once_len _) (by omega))
  have h2 : ∀ c : Mk, (wOnM s c).length ≤ 62 := fun c => by
    unfold wOnM
    rw [List.length_map]
    exact Nat.le_trans (List.length_filter_le _ _) le
  have h3 := once_len (P.flatMap (wOnM s))
  have h4 := flat_len h2 P
  have h5 : 62 * P.length ≤ 62 * 999 := Nat.mul_le_mul_left _ h1
  unfold wordsM
  omega
theorem kpM_len2 {n : Int} {T : List Mk} (h : ∀ t, t ∈ T → 0 ≤ t.1 ∧ t.1 < 14) : ∀ M : List Mk, (kpM n M T).length ≤ 14 * M.length
  | [] => Nat.zero_le _
  | m :: M => by
    have ih := kpM_len2 (n := n) h M
    have h1 : (onceM (T.map (·.1))).length ≤ 14 := len_bnd 14 _ (once_nodup _) fun q hq => by
      obtain ⟨t, ht, rfl⟩ := List.mem_map.mp (once_iff.mp hq)
      exact h t ht
    unfold kpM at ih ⊢
    rw [List.flatMap_cons, List.length_append, List.length_map, List.length_cons]
    omega
theorem lens_kp {s u : Scr} (ok1 : OkS false s 62) (ok2 : OkS false u 62) (t1 : u.rooms ≤ 14) : LensW (kpS s u) := by
  refine ⟨?_, ?_, ?_⟩
  · have := kpM_len2 (n := u.rooms) (T := u.begins) (fun t ht => by have := ok2.mb t ht; omega) s.begins
    have := ok1.lb
    show (kpM u.rooms s.begins u.begins).length ≤ 999
    omega
  · have := kpT_len u.rooms u.steps (Nat.le_trans ok2.ls (by decide)) s.steps
    have := ok1.ls
    show (kpT u.rooms s.steps u.steps).length ≤ 9999
    omega
  · have := kpM_len2 (n := u.rooms) (T := u.ends) (fun t ht => by have := ok2.me t ht; omega) s.ends
    have := ok1.le
    show (kpM u.rooms s.ends u.ends).length ≤ 999
    omega
theorem short_kp {s u : Scr} (sh : Short s) : Short (kpS s u) := by
  refine ⟨fun m hm => ?_, fun t ht => ?_, fun m hm => ?_⟩
  · obtain ⟨m0, h0, t, _, rfl⟩ := kpM_iff.mp hm
    exact sh.1 m0 h0
  · obtain ⟨t0, h0, v, _, _, rfl⟩ := kpT_iff.mp ht
    exact sh.2.1 t0 h0
  · obtain ⟨m0, h0, t, _, rfl⟩ := kpM_iff.mp hm
    exact sh.2.2 m0 h0
theorem lens_eith {s u : Scr} (ok1 : OkS false s 62) (ok2 : OkS false u 62) : LensW (eithS s u) := by
  have := ok1.lb; have := ok1.ls; have := ok1.le; have := ok2.lb; have := ok2.ls; have := ok2.le
  refine ⟨?_, ?_, ?_⟩
  · show (s.begins ++ u.begins.map _).length ≤ 999; rw [List.length_append, List.length_map]; omega
  · show (s.steps ++ u.steps.map _).length ≤ 9999; rw [List.length_append, List.length_map]; omega
  · show (s.ends ++ u.ends.map _).length ≤ 999; rw [List.length_append, List.length_map]; omega
theorem short_eith {s u : Scr} (sh : Short s) (sh2 : Short u) : Short (eithS s u) := by
  refine ⟨fun m hm => ?_, fun t ht => ?_, fun m hm => ?_⟩
  · rcases List.mem_append.mp hm with hm | hm
    · exact sh.1 m hm
    · obtain ⟨m0, h0, rfl⟩ := List.mem_map.mp hm; exact sh2.1 m0 h0
  · rcases List.mem_append.mp ht with ht | ht
    · exact sh.2.1 t ht
    · obtain ⟨m0, h0, rfl⟩ := List.mem_map.mp ht; exact sh2.2.1 m0 h0
  · rcases List.mem_append.mp hm with hm | hm
    · exact sh.2.2 m hm
    · obtain ⟨m0, h0, rfl⟩ := List.mem_map.mp hm; exact sh2.2.2 m0 h0
theorem lens_mir {s : Scr} (ok1 : OkS false s 62) : LensW (mirS s) := by
  have := ok1.lb; have := ok1.ls; have := ok1.le
  refine ⟨?_, ?_, ?_⟩
  · show (s.ends.map _).length ≤ 999; rw [List.length_map]; omega
  · show (s.steps.map _).length ≤ 9999; rw [List.length_map]; omega
  · show (s.begins.map _).length ≤ 999; rw [List.length_map]; omega
theorem short_mir {s : Scr} (sh : Short s) : Short (mirS s) := by
  refine ⟨fun m hm => ?_, fun t ht => ?_, fun m hm => ?_⟩
  · obtain ⟨m0, h0, rfl⟩ := List.mem_map.mp hm
    show (rvS m0.2).length ≤ 100; rw [rvS_len]; exact sh.2.2 m0 h0
  · obtain ⟨m0, h0, rfl⟩ := List.mem_map.mp ht
    exact ⟨(sh.2.1 m0 h0).1, by show (rvS m0.2.2.1).length ≤ 100; rw [rvS_len]; exact (sh.2.1 m0 h0).2⟩
  · obtain ⟨m0, h0, rfl⟩ := List.mem_map.mp hm
    show (rvS m0.2).length ≤ 100; rw [rvS_len]; exact sh.1 m0 h0
theorem both_words {s u : Scr} (ok : OkR s) (ku : OkR u) {ks : List Nat} {P P2 P3 : List Mk} (h1 : rwM s ks = some P) (h2 : rwM u ks = some P2) (h3 : rwM (eithS s u) ks = some P3) {ss st : List Str} (p1 : ss.Perm (wordsM s P)) (p2 : st.Perm (wordsM u P2)) :
    (wordsM (eithS s u) P3).Perm (ss ++ st.filter fun z => !decide (z ∈ ss)) := by
  have n1 : ss.Nodup := p1.nodup_iff.mpr (once_nodup _)
  have n2 : st.Nodup := p2.nodup_iff.mpr (once_nodup _)
  refine (List.perm_ext_iff_of_nodup (once_nodup _) ?_).mpr fun y => ?_
  · refine List.nodup_append.mpr ⟨n1, n2.filter _, fun a ha b hb e => ?_⟩
    have := (List.mem_filter.mp hb).2
    rw [← e] at this
    simp [ha] at this
  have k := words_wr h3 y
  rw [wr_eith ok ku, ← words_wr h1, ← words_wr h2, ← p1.mem_iff, ← p2.mem_iff] at k
  have k' : y ∈ wordsM (eithS s u) P3 ↔ y ∈ ss ∨ y ∈ st := k
  refine k'.trans ?_
  rw [List.mem_append, List.mem_filter]
  by_cases c : y ∈ ss
  · simp [c]
  · simp [c]
def spGood (K : PySem.W.Frag) : Sp := fun vs H Q _ => ∃ v s pb ps pe w u qb qs qe x, vs = [v, w, .str x] ∧ ScN K H s v pb ps pe ∧ ScN K H u w qb qs qe ∧ BgH H pb s.begins ∧ BgH H qb u.begins ∧ OkS false s 62 ∧ OkS false u 62 ∧ s.signs = u.signs ∧ 0 ≤ s.rooms ∧ s.rooms ≤ 14 ∧ 0 ≤ u.rooms ∧ u.rooms ≤ 14 ∧ x.length ≤ 50 ∧ ∀ H', Same H H' → Q (.bl true) H'
def spLaw (K : PySem.W.Frag) : Sp := fun vs H Q _ => ∃ (a : Addr) (ns : List Int), vs = [.ref a] ∧ SqL K H a (ns.map V.int) ∧ ns.length ≤ 63 ∧ ∀ H', Q (.bl true) H'

section
seal L2.PE L2.PT L2.PW L2.PA L2.PS L2.PSs L2.PC L2.PG L2.PGs L2.PI L2.PO
variable {P : Program} {w : World} {K : PySem.W.Frag} {mg : Str → Option Value} {base : Heap}
theorem sc_refuse_other_signs : FnScope ["one", "other"] ["one", "other"] (defScope s_refuse_other_signs) := ⟨rfl, rfl, rfl, by decide +kernel, rfl, by decide +kernel, by decide +kernel⟩
theorem ok_refuse_other_signs (B : Bi mg) {c_OtherSigns c_TooMany : Addr} (XB : Xb K mg c_OtherSigns c_TooMany)  {f : Addr} {fd : FuncData} (F : Fun K "refuse_other_signs" "refuse_other_signs" s_refuse_other_signs f fd) : FnOk P w K mg base (CX1 P w) 1 f fd ["one", "other"] (spOther K c_OtherSigns) := by
  refine Fun.ok1 F sc_refuse_other_signs (fun vs H Q E h => ?_) (fun cdv A outer s H vs Q E hr h => ?_)
  · obtain ⟨v, s, pb, ps, pe, w, u, qb, qs, qe, rfl, _⟩ := h; rfl
  obtain ⟨v, s, pb, ps, pe, w, u, qb, qs, qe, rfl, hV, hU, q, hE⟩ := h
  refine ⟨_, (pss_one (ps_if (pt_cmpR op_ne (pe_ix (kIx (K := K) rIxT ix_tup) (pv 0) (pe_globI (by rfl) B.SIGNS) (by intro _ _; rfl)) (pe_ix (kIx (K := K) rIxT ix_tup) (pv 1) (pe_globI (by rfl) B.SIGNS) (by intro _ _; rfl)) (nomark _)) (pss_one (ps_raise XB.own_OtherSigns (by rfl) (by rfl) raise_on pe_str)) pss_nil)), ?_⟩
  obtain ⟨a, xb, xs, xe, rfl, h1, h2, h3, h4, h5, h6, h7⟩ := hV
  obtain ⟨b, yb, ys, ye, rfl, k1, k2, k3, k4, k5, k6, k7⟩ := hU
  refine ⟨_, rfl, _, _, _, _, rfl, rfl, h1, rfl, _, rfl, _, _, _, _, rfl, rfl, k1, rfl, rfl, _, rfl, iteNd (fun c => ?_) (fun c => ?_)⟩
  · exact ⟨rfl, hE (fun z => c (by rw [z]))⟩
  · exact q (by injection c)

theorem sc_refuse_many_pairs : FnScope ["one", "other"] ["one", "other"] (defScope s_refuse_many_pairs) := ⟨rfl, rfl, rfl, by decide +kernel, rfl, by decide +kernel, by decide +kernel⟩
theorem ok_refuse_many_pairs (B : Bi mg) {c_OtherSigns c_TooMany : Addr} (XB : Xb K mg c_OtherSigns c_TooMany)  {f : Addr} {fd : FuncData} (F : Fun K "refuse_many_pairs" "refuse_many_pairs" s_refuse_many_pairs f fd) : FnOk P w K mg base (CX1 P w) 1 f fd ["one", "other"] (spPairsN K c_TooMany) := by
  refine Fun.ok1 F sc_refuse_many_pairs (fun vs H Q E h => ?_) (fun cdv A outer s H vs Q E hr h => ?_)
  · obtain ⟨v, s, pb, ps, pe, w, u, qb, qs, qe, rfl, _⟩ := h; rfl
  obtain ⟨v, s, pb, ps, pe, w, u, qb, qs, qe, rfl, hV, hU, hn, q, hE⟩ := h
  refine ⟨_, (pss_one (ps_if (pt_cmpR op_gt (pe_op op_mul (pe_ix (kIx (K := K) rIxT ix_tup) (pv 0) (pe_globI (by rfl) B.ROOMS) (by intro _ _; rfl)) (pe_ix (kIx (K := K) rIxT ix_tup) (pv 1) (pe_globI (by rfl) B.ROOMS) (by intro _ _; rfl))) (pe_globI (by rfl) B.MOST_ROOMS) (nomark _)) (pss_one (ps_raise XB.own_TooMany (by rfl) (by rfl) raise_on pe_str)) pss_nil)), ?_⟩
  obtain ⟨a, xb, xs, xe, rfl, h1, h2, h3, h4, h5, h6, h7⟩ := hV
  obtain ⟨b, yb, ys, ye, rfl, k1, k2, k3, k4, k5, k6, k7⟩ := hU
  refine ⟨_, rfl, _, _, _, _, rfl, rfl, h1, rfl, _, rfl, _, _, _, _, rfl, rfl, k1, rfl, _, _, rfl, rfl, .inl ⟨by have := hn.1; omega, by have := hn.2; omega⟩, _, _, rfl, rfl, _, rfl, iteDd (fun c => ?_) (fun c => ?_)⟩
  · exact ⟨rfl, hE (by omega)⟩
  · exact q (by omega)

theorem sc_each_once : FnScope ["parts", "found", "part"] ["parts"] (defScope s_each_once) := ⟨rfl, rfl, rfl, by decide +kernel, rfl, by decide +kernel, by decide +kernel⟩
theorem ok_each_once (B : Bi mg) {c_OtherSigns c_TooMany : Addr} (XB : Xb K mg c_OtherSigns c_TooMany)  {f : Addr} {fd : FuncData} (F : Fun K "each_once" "each_once" s_each_once f fd) : FnOk P w K mg base CX0 1 f fd ["parts"] (spOnce K) := by
  refine F.ok sc_each_once (fun vs H Q E h => ?_) (fun cdv A outer s H vs Q E hr h => ?_)
  · obtain ⟨p, rfl, _⟩ := h; rfl
  obtain ⟨p, rfl, h⟩ := h
  refine ⟨_, (pss_cons (ps_set (i := 1) sc_each_once.nd rfl (Or.inl rfl) (pe_or pe_dnewK pe_dnewT))
      (pss_cons (ps_for PassesOwn.never (by rfl) (kPI (K := K) (fun k => iList k _) (pi_list (pv 0))) (pg_name (i := 2) sc_each_once.nd rfl (Or.inl rfl)) (pss_one (ps_dput (hu_of hr) (pv 1) (pv 2) pe_bl rfl)))
      (pss_one (ps_ret (pe_callTy (call_list_d (by rfl)) (by rfl) B.list bt_list (pa_cons (pv 1) pa_nil)))))), ?_⟩
  rcases h with ⟨ns, hS, hl, q⟩ | ⟨ys, ks, hS, hP, hl, q⟩
  · refine .inl fun d hd => ?_
    have g0 := same_new hd (.dK [])
    refine ⟨_, rfl, p, rfl, ⟨_, g0.seq hS⟩, ?_⟩
    refine for_list (xs := ns.map V.int) (fun i σ H' => Same H H' ∧ i ≤ ns.length ∧ (∃ x, σ = [some (.ref p), some (.ref d), x]) ∧ ∃ kvs : List (Key × V), H' d = some (.dK kvs) ∧ kvs.map (·.1) = (onceM (ns.take i)).map Sum.inl)
      ⟨g0, Nat.zero_le _, ⟨_, rfl⟩, [], upd_same, rfl⟩ (fun i σ H' _ z => z.1.seq hS) ?_ ?_
    · rintro i x σ H1 hx ⟨g1, hi, ⟨x2, rfl⟩, kvs, hkd, hkk⟩
      rw [List.getElem?_map] at hx
      obtain ⟨n, hn, rfl⟩ := Option.map_eq_some_iff.mp hx
      have hil : i < ns.length := (List.getElem?_eq_some_iff.mp hn).1
      have hkl : kvs.length ≤ 999 := by
        have e1 := congrArg List.length hkk
        rw [List.length_map, List.length_map] at e1
        have := once_len (ns.take i)
        rw [List.length_take] at this; omega
      refine ⟨_, rfl, _, rfl, d, _, rfl, DPut.k (k := Sum.inl n) (v := .bl true) hkd (szl' (by omega)), ?_⟩
      refine ⟨same_updN g1 hd, hil, ⟨_, rfl⟩, _, upd_same, ?_⟩
      rw [put_keys, hkk, take_get hn, once_snoc, add_map (fun a b z => by injection z)]
    rintro σ H1 ⟨g1, _, ⟨x2, rfl⟩, kvs, hkd, hkk⟩
    rw [List.length_map, List.take_length] at hkk
    refine ⟨_, rfl, d, rfl, .inl ⟨kvs, hkd, fun l hl => ?_⟩⟩
    refine q l _ (g1.trans (same_new hl _)) (g1.free hl) ?_
    rw [upd_same]
    have e : (kvs.map fun kv => kV kv.1) = (onceM ns).map V.int := by
      have e1 : (kvs.map fun kv => kV kv.1) = (kvs.map (·.1)).map kV := by rw [List.map_map]; rfl
      rw [e1, hkk, List.map_map]; rfl
    rw [e]
  · refine .inr fun d hd => ?_
    have g0 := same_new hd (.dT [])
    have hyl : ks.length = ys.length := hP.length
    refine ⟨_, rfl, p, rfl, ⟨_, g0.seq hS⟩, ?_⟩
    refine for_list (xs := ys) (fun i σ H' => Same H H' ∧ i ≤ ys.length ∧ (∃ x, σ = [some (.ref p), some (.ref d), x]) ∧ ∃ kvs : List (List Key × V), H' d = some (.dT kvs) ∧ kvs.map (·.1) = onceM (ks.take i))
      ⟨g0, Nat.zero_le _, ⟨_, rfl⟩, [], upd_same, rfl⟩ (fun i σ H' _ z => z.1.seq hS) ?_ ?_
    · rintro i x σ H1 hx ⟨g1, hi, ⟨x2, rfl⟩, kvs, hkd, hkk⟩
      obtain ⟨k, hk, b, rfl, hb⟩ := paired_get hP hx
      have hil : i < ys.length := (List.getElem?_eq_some_iff.mp hx).1
      have hkl : kvs.length ≤ 999 := by
        have e1 := congrArg List.length hkk
        rw [List.length_map] at e1
        have := once_len (ks.take i)
        rw [List.length_take] at this; omega
      refine ⟨_, rfl, _, rfl, d, _, rfl, DPut.t (v := .bl true) hkd (g1 _ _ hb) (szl' (by omega)), ?_⟩
      refine ⟨same_updN g1 hd, hil, ⟨_, rfl⟩, _, upd_same, ?_⟩
      rw [put_keys, hkk, take_get hk, once_snoc]
    rintro σ H1 ⟨g1, _, ⟨x2, rfl⟩, kvs, hkd, hkk⟩
    rw [← hyl, List.take_length] at hkk
    refine ⟨_, rfl, d, rfl, .inr ⟨kvs, hkd, fun bs l hb hl => ?_⟩⟩
    have gl := same_new hl (.lst (bs.map V.ref))
    have hb2 := paired_keys (F := fun (k : List Key) (b : Addr) => H1 b = some (.tup (k.map kV))) hb
    rw [hkk] at hb2
    exact q l _ bs (g1.trans gl) (g1.free hl) upd_same (paired_mono (fun _ _ z => gl _ _ z) hb2)

theorem sc_turned : FnScope ["word"] ["word"] (defScope s_turned) := ⟨rfl, rfl, rfl, by decide +kernel, rfl, by decide +kernel, by decide +kernel⟩
theorem ok_turned (B : Bi mg) {c_OtherSigns c_TooMany : Addr} (XB : Xb K mg c_OtherSigns c_TooMany)  {f : Addr} {fd : FuncData} (F : Fun K "turned" "turned" s_turned f fd) : FnOk P w K mg base CX0 1 f fd ["word"] (spTurn) := by
  refine F.ok sc_turned (fun vs H Q E h => ?_) (fun cdv A outer s H vs Q E hr h => ?_)
  · obtain ⟨w, rfl, _⟩ := h; rfl
  obtain ⟨w, rfl, hw, q⟩ := h
  refine ⟨_, (pss_one (ps_ret (pe_revS (pv 0) (pe_un un_neg pe_int)))), ?_⟩
  exact ⟨_, rfl, _, rfl, rfl, w, rfl, szl (by omega), q⟩

theorem sc_mirrored : FnScope ["scribe", "begins", "steps", "ends"] ["scribe"] (defScope s_mirrored) := ⟨rfl, rfl, rfl, by decide +kernel, rfl, by decide +kernel, by decide +kernel⟩
theorem ok_mirrored (B : Bi mg) {c_OtherSigns c_TooMany : Addr} (XB : Xb K mg c_OtherSigns c_TooMany) (C_turned : Cal P w K mg base "turned" ["word"] 1 (spTurn)) {f : Addr} {fd : FuncData} (F : Fun K "mirrored" "mirrored" s_mirrored f fd) : FnOk P w K mg base CX0 2 f fd ["scribe"] (spMir K) := by
  refine F.ok sc_mirrored (fun vs H Q E h => ?_) (fun cdv A outer s H vs Q E hr h => ?_)
  · obtain ⟨v, s, pb, ps, pe, rfl, _⟩ := h; rfl
  obtain ⟨v, s, pb, ps, pe, rfl, hV, bd, q⟩ := h
  refine ⟨_, (pss_cons (ps_compset (i := 1) sc_mirrored.nd rfl (Or.inl rfl) (by rfl) (by rfl) (blk_mk (N' := ["room", "word"]) (js := [none, none]) rfl (by decide +kernel) rfl (by decide +kernel) rfl rfl) (kPI (K := K) (fun k => iList k _) (pi_list (pe_ix (kIx (K := K) rIxT ix_tup) (pv 0) (pe_globI (by rfl) B.ENDS) (by intro _ _; rfl)))) (fun _ _ _ _ _ => (kPG (K := K) (fun k => gTup k 2 _) (pg_tup (n := 2) (by rfl) (pgs_cons (pg_name (i := 0) (show List.Nodup (["room", "word"] : List Str) by decide +kernel) rfl (Or.inl rfl)) (pgs_cons (pg_name (i := 1) (show List.Nodup (["room", "word"] : List Str) by decide +kernel) rfl (Or.inl rfl)) pgs_nil))))) (fun _ _ _ _ _ => pf_nil) (fun _ _ _ _ _ => (pe_tup (pa_cons (pv 0) (pa_cons (pe_fn C_turned hr (by decide : 1 ≤ 1) (by rfl) (pa_cons (pv 1) pa_nil)) pa_nil)))))
      (pss_cons (ps_compset (i := 2) sc_mirrored.nd rfl (Or.inl rfl) (by rfl) (by rfl) (blk_mk (N' := ["start", "sign", "word", "goal"]) (js := [none, none, none, none]) rfl (by decide +kernel) rfl (by decide +kernel) rfl rfl) (kPI (K := K) (fun k => iList k _) (pi_list (pe_ix (kIx (K := K) rIxT ix_tup) (pv 0) (pe_globI (by rfl) B.STEPS) (by intro _ _; rfl)))) (fun _ _ _ _ _ => (kPG (K := K) (fun k => gTup k 4 _) (pg_tup (n := 4) (by rfl) (pgs_cons (pg_name (i := 0) (show List.Nodup (["start", "sign", "word", "goal"] : List Str) by decide +kernel) rfl (Or.inl rfl)) (pgs_cons (pg_name (i := 1) (show List.Nodup (["start", "sign", "word", "goal"] : List Str) by decide +kernel) rfl (Or.inl rfl)) (pgs_cons (pg_name (i := 2) (show List.Nodup (["start", "sign", "word", "goal"] : List Str) by decide +kernel) rfl (Or.inl rfl)) (pgs_cons (pg_name (i := 3) (show List.Nodup (["start", "sign", "word", "goal"] : List Str) by decide +kernel) rfl (Or.inl rfl)) pgs_nil))))))) (fun _ _ _ _ _ => pf_nil) (fun _ _ _ _ _ => (pe_tup (pa_cons (pv 3) (pa_cons (pv 1) (pa_cons (pe_fn C_turned hr (by decide : 1 ≤ 1) (by rfl) (pa_cons (pv 2) pa_nil)) (pa_cons (pv 0) pa_nil)))))))
      (pss_cons (ps_compset (i := 3) sc_mirrored.nd rfl (Or.inl rfl) (by rfl) (by rfl) (blk_mk (N' := ["room", "word"]) (js := [none, none]) rfl (by decide +kernel) rfl (by decide +kernel) rfl rfl) (kPI (K := K) (fun k => iList k _) (pi_list (pe_ix (kIx (K := K) rIxT ix_tup) (pv 0) (pe_globI (by rfl) B.BEGINS) (by intro _ _; rfl)))) (fun _ _ _ _ _ => (kPG (K := K) (fun k => gTup k 2 _) (pg_tup (n := 2) (by rfl) (pgs_cons (pg_name (i := 0) (show List.Nodup (["room", "word"] : List Str) by decide +kernel) rfl (Or.inl rfl)) (pgs_cons (pg_name (i := 1) (show List.Nodup (["room", "word"] : List Str) by decide +kernel) rfl (Or.inl rfl)) pgs_nil))))) (fun _ _ _ _ _ => pf_nil) (fun _ _ _ _ _ => (pe_tup (pa_cons (pv 0) (pa_cons (pe_fn C_turned hr (by decide : 1 ≤ 1) (by rfl) (pa_cons (pv 1) pa_nil)) pa_nil)))))
      (pss_one (ps_ret (pe_tup (pa_cons (pe_ix (kIx (K := K) rIxT ix_tup) (pv 0) (pe_globI (by rfl) B.SIGNS) (by intro _ _; rfl)) (pa_cons (pe_ix (kIx (K := K) rIxT ix_tup) (pv 0) (pe_globI (by rfl) B.ROOMS) (by intro _ _; rfl)) (pa_cons (pv 1) (pa_cons (pv 2) (pa_cons (pv 3) pa_nil))))))))))), ?_⟩
  obtain ⟨a, xb, xs, xe, rfl, h1, h2, h3, h4, h5, h6, h7⟩ := hV
  refine ⟨_, rfl, _, _, _, _, rfl, rfl, h1, rfl, pe, rfl, ⟨xe, h4⟩, ?_⟩
  
  refine comp_list (xs := xe) (fun i ys τ H' => Same H H' ∧ (∃ x y, τ = [x, y]) ∧ i ≤ xe.length ∧ Paired (MkH H') ((s.ends.take i).map rvM) ys) ⟨Same.refl _, ⟨_, _, rfl⟩, Nat.zero_le _, .nil⟩ (fun i ys τ H' z => z.1.seq h4) ?_ ?_
  · rintro i x ys τ H' hx ⟨g', ⟨x0, y0, rfl⟩, hi, hP⟩
    obtain ⟨m, hm, b, rfl, hb⟩ := paired_get h7 hx
    have hil : i < xe.length := (List.getElem?_eq_some_iff.mp hx).1
    have hll : xe.length ≤ 999 := by rw [← h7.length]; exact bd.le
    have hb1 := (Same.grow g').seqT hb
    have hyl : ys.length ≤ 999 := by rw [← hP.length, List.length_map, List.length_take]; omega
    refine ⟨b, _, rfl, hb1, rfl, _, _, rfl, _, _, rfl, rfl, ?_⟩
    refine ⟨_, rfl, _, rfl, m.2, rfl, bd.we m (List.mem_of_getElem? hm), (by show 2 ≤ sizeLine; decide), fun p hp => ⟨szl' (by omega), g'.trans (same_new hp _), ⟨_, _, rfl⟩, hil, ?_⟩⟩
    rw [take_get hm, List.map_append]
    exact paired_append (paired_mono (fun _ _ => MkH.mono (grow_new hp _)) hP) (.cons ⟨p, rfl, upd_same⟩ .nil)
  rintro fay τ faH ⟨gfa, _, _, hPfa⟩ fa hfa
  rw [← h7.length, List.take_length] at hPfa
  have hfa0 := gfa.free hfa
  have kfa := same_new hfa (.lst fay)
  have efa := upd_same (H := faH) (a := fa) (o := .lst fay)
  have gfa := gfa.trans kfa
  have hPfa := paired_mono (fun _ _ => MkH.mono (Same.grow kfa)) hPfa
  generalize upd faH fa (.lst fay) = faK at efa gfa hPfa ⊢
  
  have h6a := paired_mono (fun _ _ => StV.mono (Same.grow gfa)) h6
  refine ⟨_, rfl, _, _, _, _, rfl, rfl, Same.seqT gfa h1, rfl, ps, rfl, ⟨xs, gfa.seq h3⟩, ?_⟩
  
  refine comp_list (xs := xs) (fun i ys τ H' => Same faK H' ∧ (∃ x y z u, τ = [x, y, z, u]) ∧ i ≤ xs.length ∧ Paired (StV K H') ((s.steps.take i).map rvT) ys) ⟨Same.refl _, ⟨_, _, _, _, rfl⟩, Nat.zero_le _, .nil⟩ (fun i ys τ H' z => z.1.seq (gfa.seq h3)) ?_ ?_
  · rintro i x ys τ H' hx ⟨g', ⟨x0, y0, z0, u0, rfl⟩, hi, hP⟩
    obtain ⟨m, hm, b, rfl, hb⟩ := paired_get h6a hx
    have hil : i < xs.length := (List.getElem?_eq_some_iff.mp hx).1
    have hll : xs.length ≤ 999 := by rw [← h6a.length]; exact bd.ls
    have hb1 := (Same.grow g').seqT hb
    have hyl : ys.length ≤ 999 := by rw [← hP.length, List.length_map, List.length_take]; omega
    refine ⟨b, _, rfl, hb1, rfl, _, _, rfl, _, _, rfl, _, _, rfl, _, _, rfl, rfl, ?_⟩
    refine ⟨_, rfl, _, rfl, _, rfl, m.2.2.1, rfl, bd.ws m (List.mem_of_getElem? hm), _, rfl, (by show 4 ≤ sizeLine; decide), fun p hp => ⟨szl' (by omega), g'.trans (same_new hp _), ⟨_, _, _, _, rfl⟩, hil, ?_⟩⟩
    rw [take_get hm, List.map_append]
    exact paired_append (paired_mono (fun _ _ => StV.mono (grow_new hp _)) hP) (.cons ⟨p, rfl, SqT.of upd_same⟩ .nil)
  rintro fby τ fbH ⟨gfb, _, _, hPfb⟩ fb hfb
  rw [← h6a.length, List.take_length] at hPfb
  have hfb0 := gfb.free hfb
  have kfb := same_new hfb (.lst fby)
  have efb := upd_same (H := fbH) (a := fb) (o := .lst fby)
  have gfb := gfb.trans kfb
  have hPfb := paired_mono (fun _ _ => StV.mono (Same.grow kfb)) hPfb
  generalize upd fbH fb (.lst fby) = fbK at efb gfb hPfb ⊢
  
  have g2 := gfa.trans gfb
  have h5b := paired_mono (fun _ _ => MkV.mono (Same.grow g2)) h5
  refine ⟨_, rfl, _, _, _, _, rfl, rfl, Same.seqT g2 h1, rfl, pb, rfl, ⟨xb, g2.seq h2⟩, ?_⟩
  
  refine comp_list (xs := xb) (fun i ys τ H' => Same fbK H' ∧ (∃ x y, τ = [x, y]) ∧ i ≤ xb.length ∧ Paired (MkV K H') ((s.begins.take i).map rvM) ys) ⟨Same.refl _, ⟨_, _, rfl⟩, Nat.zero_le _, .nil⟩ (fun i ys τ H' z => z.1.seq (g2.seq h2)) ?_ ?_
  · rintro i x ys τ H' hx ⟨g', ⟨x0, y0, rfl⟩, hi, hP⟩
    obtain ⟨m, hm, b, rfl, hb⟩ := paired_get h5b hx
    have hil : i < xb.length := (List.getElem?_eq_some_iff.mp hx).1
    have hll : xb.length ≤ 999 := by rw [← h5b.length]; exact bd.lb
    have hb1 := (Same.grow g').seqT hb
    have hyl : ys.length ≤ 999 := by rw [← hP.length, List.length_map, List.length_take]; omega
    refine ⟨b, _, rfl, hb1, rfl, _, _, rfl, _, _, rfl, rfl, ?_⟩
    refine ⟨_, rfl, _, rfl, m.2, rfl, bd.wb m (List.mem_of_getElem? hm), (by show 2 ≤ sizeLine; decide), fun p hp => ⟨szl' (by omega), g'.trans (same_new hp _), ⟨_, _, rfl⟩, hil, ?_⟩⟩
    rw [take_get hm, List.map_append]
    exact paired_append (paired_mono (fun _ _ => MkV.mono (grow_new hp _)) hP) (.cons ⟨p, rfl, SqT.of upd_same⟩ .nil)
  rintro fcy τ fcH ⟨gfc, _, _, hPfc⟩ fc hfc
  rw [← h5b.length, List.take_length] at hPfc
  have hfc0 := gfc.free hfc
  have kfc := same_new hfc (.lst fcy)
  have efc := upd_same (H := fcH) (a := fc) (o := .lst fcy)
  have gfc := gfc.trans kfc
  have hPfc := paired_mono (fun _ _ => MkV.mono (Same.grow kfc)) hPfc
  generalize upd fcH fc (.lst fcy) = fcK at efc gfc hPfc ⊢
  
  have g3 := g2.trans gfc
  have t1 := Same.seqT g3 h1
  refine ⟨_, rfl, _, _, _, _, rfl, rfl, t1, rfl, _, rfl, _, _, _, _, rfl, rfl, t1, rfl, _, rfl, _, rfl, _, rfl, (by show 5 ≤ sizeLine; decide), fun v hv => ?_⟩
  have gv := same_new hv (.tup [V.str s.signs, V.int s.rooms, V.ref fa, V.ref fb, V.ref fc])
  have ev := upd_same (H := fcK) (a := v) (o := .tup [V.str s.signs, V.int s.rooms, V.ref fa, V.ref fb, V.ref fc])
  dsimp only at hv ⊢
  generalize upd fcK v (.tup [V.str s.signs, V.int s.rooms, V.ref fa, V.ref fb, V.ref fc]) = H4 at gv ev ⊢
  have ga := (gfb.trans gfc).trans gv
  have gb := gfc.trans gv
  exact q _ _ fa fb fc (g3.trans gv) ⟨v, fay, fby, fcy, rfl, SqT.of ev, ga _ _ efa, gb _ _ efb, gv _ _ efc, mkH_v (paired_mono (fun _ _ => MkH.mono (Same.grow ga)) hPfa), paired_mono (fun _ _ => StV.mono (Same.grow gb)) hPfb, paired_mono (fun _ _ => MkV.mono (Same.grow gv)) hPfc⟩
    ⟨hfa0, gfa.free hfb0, g2.free hfc0, ne_of_none efa hfb0, ne_of_none (gfb _ _ efa) hfc0, ne_of_none efb hfc0⟩ ⟨fay, ga _ _ efa, paired_mono (fun _ _ => MkH.mono (Same.grow ga)) hPfa⟩

theorem sc_either_of : FnScope ["one", "other", "more", "begins", "steps", "ends"] ["one", "other"] (defScope s_either_of) := ⟨rfl, rfl, rfl, by decide +kernel, rfl, by decide +kernel, by decide +kernel⟩
theorem ok_either_of (B : Bi mg) {c_OtherSigns c_TooMany : Addr} (XB : Xb K mg c_OtherSigns c_TooMany) (C_refuse_other_signs : Cal1 P w K mg base "refuse_other_signs" ["one", "other"] 1 (spOther K c_OtherSigns)) {f : Addr} {fd : FuncData} (F : Fun K "either_of" "either_of" s_either_of f fd) : FnOk P w K mg base (CX1 P w) 2 f fd ["one", "other"] (spEither K c_OtherSigns c_TooMany) := by
  refine Fun.ok1 F sc_either_of (fun vs H Q E h => ?_) (fun cdv A outer s H vs Q E hr h => ?_)
  · obtain ⟨v, s, pb, ps, pe, w, u, qb, qs, qe, rfl, _⟩ := h; rfl
  obtain ⟨v, s, pb, ps, pe, w, u, qb, qs, qe, rfl, hV, hU, ls_, lu, hB, qS, qT, q⟩ := h
  refine ⟨_, (pss_cons (ps_expr (pe_fn1 C_refuse_other_signs hr (by decide : 1 ≤ 1) (by rfl) pass_on (pa_cons (pv 0) (pa_cons (pv 1) pa_nil))))
      (pss_cons (ps_set (i := 2) sc_either_of.nd rfl (Or.inr rfl) (pe_ix (kIx (K := K) rIxT ix_tup) (pv 0) (pe_globI (by rfl) B.ROOMS) (by intro _ _; rfl)))
      (pss_cons (ps_if (pt_cmpR op_gt (pe_op op_add (pv 2) (pe_ix (kIx (K := K) rIxT ix_tup) (pv 1) (pe_globI (by rfl) B.ROOMS) (by intro _ _; rfl))) (pe_globI (by rfl) B.MOST_ROOMS) (nomark _)) (pss_one (ps_raise XB.own_TooMany (by rfl) (by rfl) raise_on pe_str)) pss_nil)
      (pss_cons (ps_set (i := 3) sc_either_of.nd rfl (Or.inl rfl) (pe_op op_cat (pe_ix (kIx (K := K) rIxT ix_tup) (pv 0) (pe_globI (by rfl) B.BEGINS) (by intro _ _; rfl)) (pe_comp rfl (blk_mk (N' := ["room", "word", "more"]) (js := [none, none, some 2]) rfl (by decide +kernel) rfl (by decide +kernel) rfl rfl) (kPI (K := K) (fun k => iList k _) (pi_list (pe_ix (kIx (K := K) rIxT ix_tup) (pv 1) (pe_globI (by rfl) B.BEGINS) (by intro _ _; rfl)))) (fun _ _ _ _ _ => (kPG (K := K) (fun k => gTup k 2 _) (pg_tup (n := 2) (by rfl) (pgs_cons (pg_name (i := 0) (show List.Nodup (["room", "word", "more"] : List Str) by decide +kernel) rfl (Or.inl rfl)) (pgs_cons (pg_name (i := 1) (show List.Nodup (["room", "word", "more"] : List Str) by decide +kernel) rfl (Or.inl rfl)) pgs_nil))))) (fun _ _ _ _ _ => pf_nil) (fun _ _ _ _ _ => (pe_tup (pa_cons (pe_op op_add (pv 0) (pv 2)) (pa_cons (pv 1) pa_nil)))))))
      (pss_cons (ps_set (i := 4) sc_either_of.nd rfl (Or.inl rfl) (pe_op op_cat (pe_ix (kIx (K := K) rIxT ix_tup) (pv 0) (pe_globI (by rfl) B.STEPS) (by intro _ _; rfl)) (pe_comp rfl (blk_mk (N' := ["start", "sign", "word", "goal", "more"]) (js := [none, none, none, none, some 2]) rfl (by decide +kernel) rfl (by decide +kernel) rfl rfl) (kPI (K := K) (fun k => iList k _) (pi_list (pe_ix (kIx (K := K) rIxT ix_tup) (pv 1) (pe_globI (by rfl) B.STEPS) (by intro _ _; rfl)))) (fun _ _ _ _ _ => (kPG (K := K) (fun k => gTup k 4 _) (pg_tup (n := 4) (by rfl) (pgs_cons (pg_name (i := 0) (show List.Nodup (["start", "sign", "word", "goal", "more"] : List Str) by decide +kernel) rfl (Or.inl rfl)) (pgs_cons (pg_name (i := 1) (show List.Nodup (["start", "sign", "word", "goal", "more"] : List Str) by decide +kernel) rfl (Or.inl rfl)) (pgs_cons (pg_name (i := 2) (show List.Nodup (["start", "sign", "word", "goal", "more"] : List Str) by decide +kernel) rfl (Or.inl rfl)) (pgs_cons (pg_name (i := 3) (show List.Nodup (["start", "sign", "word", "goal", "more"] : List Str) by decide +kernel) rfl (Or.inl rfl)) pgs_nil))))))) (fun _ _ _ _ _ => pf_nil) (fun _ _ _ _ _ => (pe_tup (pa_cons (pe_op op_add (pv 0) (pv 4)) (pa_cons (pv 1) (pa_cons (pv 2) (pa_cons (pe_op op_add (pv 3) (pv 4)) pa_nil)))))))))
      (pss_cons (ps_set (i := 5) sc_either_of.nd rfl (Or.inl rfl) (pe_op op_cat (pe_ix (kIx (K := K) rIxT ix_tup) (pv 0) (pe_globI (by rfl) B.ENDS) (by intro _ _; rfl)) (pe_comp rfl (blk_mk (N' := ["room", "word", "more"]) (js := [none, none, some 2]) rfl (by decide +kernel) rfl (by decide +kernel) rfl rfl) (kPI (K := K) (fun k => iList k _) (pi_list (pe_ix (kIx (K := K) rIxT ix_tup) (pv 1) (pe_globI (by rfl) B.ENDS) (by intro _ _; rfl)))) (fun _ _ _ _ _ => (kPG (K := K) (fun k => gTup k 2 _) (pg_tup (n := 2) (by rfl) (pgs_cons (pg_name (i := 0) (show List.Nodup (["room", "word", "more"] : List Str) by decide +kernel) rfl (Or.inl rfl)) (pgs_cons (pg_name (i := 1) (show List.Nodup (["room", "word", "more"] : List Str) by decide +kernel) rfl (Or.inl rfl)) pgs_nil))))) (fun _ _ _ _ _ => pf_nil) (fun _ _ _ _ _ => (pe_tup (pa_cons (pe_op op_add (pv 0) (pv 2)) (pa_cons (pv 1) pa_nil)))))))
      (pss_one (ps_ret (pe_tup (pa_cons (pe_ix (kIx (K := K) rIxT ix_tup) (pv 0) (pe_globI (by rfl) B.SIGNS) (by intro _ _; rfl)) (pa_cons (pe_op op_add (pv 2) (pe_ix (kIx (K := K) rIxT ix_tup) (pv 1) (pe_globI (by rfl) B.ROOMS) (by intro _ _; rfl))) (pa_cons (pv 3) (pa_cons (pv 4) (pa_cons (pv 5) pa_nil)))))))))))))), ?_⟩
  replace ls_ : LensR s := ⟨ls_.1, ls_.2.1, ls_.2.2⟩
  replace lu : LensR u := ⟨lu.1, lu.2.1, lu.2.2⟩
  refine ⟨_, rfl, _, rfl, v, s, pb, ps, pe, w, u, qb, qs, qe, rfl, hV.v, hU.v, fun hs => ?_, fun hs => qS hs⟩
  replace q := q hs
  replace qT := qT hs
  obtain ⟨a, xb, xs, xe, rfl, h1, h2, h3, h4, h5, h6, h7⟩ := hV
  obtain ⟨b, yb, ys, ye, rfl, k1, k2, k3, k4, k5, k6, k7⟩ := hU
  refine ⟨_, rfl, _, _, _, _, rfl, rfl, h1, rfl, ?_⟩
  refine ⟨_, rfl, _, rfl, _, _, _, _, rfl, rfl, k1, rfl, _, _, rfl, rfl, _, _, rfl, rfl, _, rfl, iteDd (fun c => ?_) (fun c => ?_)⟩
  · exact ⟨rfl, qT (by omega)⟩
  replace q := q (by omega)
  refine ⟨_, rfl, _, _, _, _, rfl, rfl, h1, rfl, _, rfl, _, _, _, _, rfl, rfl, k1, rfl, qb, rfl, ⟨yb, SqL.of k2⟩, ?_⟩
  obtain ⟨xb0, hB0, hB5⟩ := hB
  cases (hB0.symm.trans h2)
  
  refine comp_list (xs := yb) (fun i rs τ H' => Same H H' ∧ (∃ x y, τ = [x, y, some (.int s.rooms)]) ∧ i ≤ yb.length ∧ Paired (MkH H') ((u.begins.take i).map (shM s.rooms)) rs) ⟨Same.refl _, ⟨_, _, rfl⟩, Nat.zero_le _, .nil⟩ (fun i rs τ H' z => z.1.seq (SqL.of k2)) ?_ ?_
  · rintro i x rs τ H' hx ⟨g', ⟨x0, y0, rfl⟩, hi, hP⟩
    obtain ⟨m, hm, b, rfl, hb⟩ := paired_get k5 hx
    have hil : i < yb.length := (List.getElem?_eq_some_iff.mp hx).1
    have hll : yb.length ≤ 999 := by rw [← k5.length]; exact lu.lb
    have hb1 := (Same.grow g').seqT hb
    have hyl : rs.length ≤ 999 := by rw [← hP.length, List.length_map, List.length_take]; omega
    refine ⟨b, _, rfl, hb1, rfl, _, _, rfl, _, _, rfl, rfl, ?_⟩
    refine ⟨_, rfl, _, rfl, _, _, rfl, rfl, _, rfl, (by show 2 ≤ sizeLine; decide), fun p hp => ⟨szl' (by omega), g'.trans (same_new hp _), ⟨_, _, rfl⟩, hil, ?_⟩⟩
    rw [take_get hm, List.map_append]
    exact paired_append (paired_mono (fun _ _ => MkH.mono (grow_new hp _)) hP) (.cons ⟨p, rfl, upd_same⟩ .nil)
  rintro fay τ faH ⟨gfa, _, _, hPfa⟩ fal hfal
  rw [← k5.length, List.take_length] at hPfa
  have kfa := same_new hfal (.lst fay)
  have efal := upd_same (H := faH) (a := fal) (o := .lst fay)
  have gfa := gfa.trans kfa
  have hPfa := paired_mono (fun _ _ => MkH.mono (Same.grow kfa)) hPfa
  generalize upd faH fal (.lst fay) = faJ at efal gfa hPfa ⊢
  have zfa : xb.length + fay.length ≤ 2000 := by rw [← hPfa.length, ← hB5.length, List.length_map]; have := ls_.lb; have := lu.lb; omega
  refine ⟨_, fal, _, _, rfl, rfl,  gfa _ _ h2, efal, szl (by omega), fun fa hfa => ?_⟩
  have hfa0 := gfa.free hfa
  have kfa := same_new hfa (.lst (xb ++ fay))
  have efa := upd_same (H := faJ) (a := fa) (o := .lst (xb ++ fay))
  have hPfa := paired_append (paired_mono (fun _ _ => MkH.mono (Same.grow gfa)) hB5) hPfa
  have hPfa := paired_mono (fun _ _ => MkH.mono (Same.grow kfa)) hPfa
  have gfa := gfa.trans kfa
  generalize upd faJ fa (.lst (xb ++ fay)) = faK at efa gfa hPfa ⊢
  
  have h6a := paired_mono (fun _ _ => StV.mono (Same.grow gfa)) h6
  have k6a := paired_mono (fun _ _ => StV.mono (Same.grow gfa)) k6
  have h3a := gfa _ _ h3
  refine ⟨_, rfl, _, _, _, _, rfl, rfl, Same.seqT gfa h1, rfl, _, rfl, _, _, _, _, rfl, rfl, Same.seqT gfa k1, rfl, qs, rfl, ⟨ys, SqL.of (gfa _ _ k3)⟩, ?_⟩
  
  refine comp_list (xs := ys) (fun i rs τ H' => Same faK H' ∧ (∃ x y x2 y2, τ = [x, y, x2, y2, some (.int s.rooms)]) ∧ i ≤ ys.length ∧ Paired (StV K H') ((u.steps.take i).map (shT s.rooms)) rs) ⟨Same.refl _, ⟨_, _, _, _, rfl⟩, Nat.zero_le _, .nil⟩ (fun i rs τ H' z => z.1.seq (SqL.of (gfa _ _ k3))) ?_ ?_
  · rintro i x rs τ H' hx ⟨g', ⟨x0, y0, x2, y2, rfl⟩, hi, hP⟩
    obtain ⟨m, hm, b, rfl, hb⟩ := paired_get k6a hx
    have hil : i < ys.length := (List.getElem?_eq_some_iff.mp hx).1
    have hll : ys.length ≤ 999 := by rw [← k6a.length]; exact lu.ls
    have hb1 := (Same.grow g').seqT hb
    have hyl : rs.length ≤ 999 := by rw [← hP.length, List.length_map, List.length_take]; omega
    refine ⟨b, _, rfl, hb1, rfl, _, _, rfl, _, _, rfl, _, _, rfl, _, _, rfl, rfl, ?_⟩
    refine ⟨_, rfl, _, rfl, _, _, rfl, rfl, _, rfl, _, rfl, _, rfl, _, rfl, _, _, rfl, rfl, (by show 4 ≤ sizeLine; decide), fun p hp => ⟨szl' (by omega), g'.trans (same_new hp _), ⟨_, _, _, _, rfl⟩, hil, ?_⟩⟩
    rw [take_get hm, List.map_append]
    exact paired_append (paired_mono (fun _ _ => StV.mono (grow_new hp _)) hP) (.cons ⟨p, rfl, SqT.of upd_same⟩ .nil)
  rintro fby τ fbH ⟨gfb, _, _, hPfb⟩ fbl hfbl
  rw [← k6a.length, List.take_length] at hPfb
  have kfb := same_new hfbl (.lst fby)
  have efbl := upd_same (H := fbH) (a := fbl) (o := .lst fby)
  have gfb := gfb.trans kfb
  have hPfb := paired_mono (fun _ _ => StV.mono (Same.grow kfb)) hPfb
  generalize upd fbH fbl (.lst fby) = fbJ at efbl gfb hPfb ⊢
  have zfb : xs.length + fby.length ≤ 2000 := by rw [← hPfb.length, ← h6a.length, List.length_map]; have := ls_.ls; have := lu.ls; omega
  refine ⟨_, fbl, _, _, rfl, rfl,  gfb _ _ h3a, efbl, szl (by omega), fun fb hfb => ?_⟩
  have hfb0 := gfb.free hfb
  have kfb := same_new hfb (.lst (xs ++ fby))
  have efb := upd_same (H := fbJ) (a := fb) (o := .lst (xs ++ fby))
  have hPfb := paired_append (paired_mono (fun _ _ => StV.mono (Same.grow gfb)) h6a) hPfb
  have hPfb := paired_mono (fun _ _ => StV.mono (Same.grow kfb)) hPfb
  have gfb := gfb.trans kfb
  generalize upd fbJ fb (.lst (xs ++ fby)) = fbK at efb gfb hPfb ⊢
  
  have g2 := gfa.trans gfb
  have h7b := paired_mono (fun _ _ => MkV.mono (Same.grow g2)) h7
  have k7b := paired_mono (fun _ _ => MkV.mono (Same.grow g2)) k7
  have h4b := g2 _ _ h4
  refine ⟨_, rfl, _, _, _, _, rfl, rfl, Same.seqT g2 h1, rfl, _, rfl, _, _, _, _, rfl, rfl, Same.seqT g2 k1, rfl, qe, rfl, ⟨ye, SqL.of (g2 _ _ k4)⟩, ?_⟩
  
  refine comp_list (xs := ye) (fun i rs τ H' => Same fbK H' ∧ (∃ x y, τ = [x, y, some (.int s.rooms)]) ∧ i ≤ ye.length ∧ Paired (MkV K H') ((u.ends.take i).map (shM s.rooms)) rs) ⟨Same.refl _, ⟨_, _, rfl⟩, Nat.zero_le _, .nil⟩ (fun i rs τ H' z => z.1.seq (SqL.of (g2 _ _ k4))) ?_ ?_
  · rintro i x rs τ H' hx ⟨g', ⟨x0, y0, rfl⟩, hi, hP⟩
    obtain ⟨m, hm, b, rfl, hb⟩ := paired_get k7b hx
    have hil : i < ye.length := (List.getElem?_eq_some_iff.mp hx).1
    have hll : ye.length ≤ 999 := by rw [← k7b.length]; exact lu.le
    have hb1 := (Same.grow g').seqT hb
    have hyl : rs.length ≤ 999 := by rw [← hP.length, List.length_map, List.length_take]; omega
    refine ⟨b, _, rfl, hb1, rfl, _, _, rfl, _, _, rfl, rfl, ?_⟩
    refine ⟨_, rfl, _, rfl, _, _, rfl, rfl, _, rfl, (by show 2 ≤ sizeLine; decide), fun p hp => ⟨szl' (by omega), g'.trans (same_new hp _), ⟨_, _, rfl⟩, hil, ?_⟩⟩
    rw [take_get hm, List.map_append]
    exact paired_append (paired_mono (fun _ _ => MkV.mono (grow_new hp _)) hP) (.cons ⟨p, rfl, SqT.of upd_same⟩ .nil)
  rintro fcy τ fcH ⟨gfc, _, _, hPfc⟩ fcl hfcl
  rw [← k7b.length, List.take_length] at hPfc
  have kfc := same_new hfcl (.lst fcy)
  have efcl := upd_same (H := fcH) (a := fcl) (o := .lst fcy)
  have gfc := gfc.trans kfc
  have hPfc := paired_mono (fun _ _ => MkV.mono (Same.grow kfc)) hPfc
  generalize upd fcH fcl (.lst fcy) = fcJ at efcl gfc hPfc ⊢
  have zfc : xe.length + fcy.length ≤ 2000 := by rw [← hPfc.length, ← h7b.length, List.length_map]; have := ls_.le; have := lu.le; omega
  refine ⟨_, fcl, _, _, rfl, rfl,  gfc _ _ h4b, efcl, szl (by omega), fun fc hfc => ?_⟩
  have hfc0 := gfc.free hfc
  have kfc := same_new hfc (.lst (xe ++ fcy))
  have efc := upd_same (H := fcJ) (a := fc) (o := .lst (xe ++ fcy))
  have hPfc := paired_append (paired_mono (fun _ _ => MkV.mono (Same.grow gfc)) h7b) hPfc
  have hPfc := paired_mono (fun _ _ => MkV.mono (Same.grow kfc)) hPfc
  have gfc := gfc.trans kfc
  generalize upd fcJ fc (.lst (xe ++ fcy)) = fcK at efc gfc hPfc ⊢
  
  have g3 := g2.trans gfc
  have t1 := Same.seqT g3 h1
  have t2 := Same.seqT g3 k1
  refine ⟨_, rfl, _, _, _, _, rfl, rfl, t1, rfl, _, rfl, _, rfl, _, _, _, _, rfl, rfl, t2, rfl, _, _, rfl, rfl, _, rfl, _, rfl, _, rfl, (by show 5 ≤ sizeLine; decide), fun v hv => ?_⟩
  have gv := same_new hv (.tup [V.str s.signs, V.int (s.rooms + u.rooms), V.ref fa, V.ref fb, V.ref fc])
  have ev := upd_same (H := fcK) (a := v) (o := .tup [V.str s.signs, V.int (s.rooms + u.rooms), V.ref fa, V.ref fb, V.ref fc])
  dsimp only at hv ⊢
  generalize upd fcK v (.tup [V.str s.signs, V.int (s.rooms + u.rooms), V.ref fa, V.ref fb, V.ref fc]) = H4 at gv ev ⊢
  have ga := (gfb.trans gfc).trans gv
  have gb := gfc.trans gv
  exact q _ _ fa fb fc (g3.trans gv) ⟨v, _, _, _, rfl, SqT.of ev, ga _ _ efa, gb _ _ efb, gv _ _ efc, mkH_v (paired_mono (fun _ _ => MkH.mono (Same.grow ga)) hPfa), paired_mono (fun _ _ => StV.mono (Same.grow gb)) hPfb, paired_mono (fun _ _ => MkV.mono (Same.grow gv)) hPfc⟩
    ⟨hfa0, gfa.free hfb0, g2.free hfc0, ne_of_none efa hfb0, ne_of_none (gfb _ _ efa) hfc0, ne_of_none efb hfc0⟩ ⟨_, ga _ _ efa, paired_mono (fun _ _ => MkH.mono (Same.grow ga)) hPfa⟩

theorem sc_kept_marks : FnScope ["marks", "others", "count", "rooms", "kept", "room", "word"] ["marks", "others", "count"] (defScope s_kept_marks) := ⟨rfl, rfl, rfl, by decide +kernel, rfl, by decide +kernel, by decide +kernel⟩
theorem ok_kept_marks (B : Bi mg) {c_OtherSigns c_TooMany : Addr} (XB : Xb K mg c_OtherSigns c_TooMany) (C_each_once : Cal P w K mg base "each_once" ["parts"] 1 (spOnce K)) {f : Addr} {fd : FuncData} (F : Fun K "kept_marks" "kept_marks" s_kept_marks f fd) : FnOk P w K mg base CX0 2 f fd ["marks", "others", "count"] (spKeptM K) := by
  refine F.ok sc_kept_marks (fun vs H Q E h => ?_) (fun cdv A outer s H vs Q E hr h => ?_)
  · obtain ⟨p, o, n, M, T, rfl, _⟩ := h; rfl
  obtain ⟨p, o, n, M, T, rfl, hM, hT, lM, lT, hn, q⟩ := h
  refine ⟨_, (pss_cons (ps_set (i := 3) sc_kept_marks.nd rfl (Or.inl rfl) (pe_fn C_each_once hr (by decide : 1 ≤ 1) (by rfl) (pa_cons (pe_comp rfl (blk_mk (N' := ["room", "word"]) (js := [none, none]) rfl (by decide +kernel) rfl (by decide +kernel) rfl rfl) (kPI (K := K) (fun k => iList k _) (pi_list (pv 1))) (fun _ _ _ _ _ => (kPG (K := K) (fun k => gTup k 2 _) (pg_tup (n := 2) (by rfl) (pgs_cons (pg_name (i := 0) (show List.Nodup (["room", "word"] : List Str) by decide +kernel) rfl (Or.inl rfl)) (pgs_cons (pg_name (i := 1) (show List.Nodup (["room", "word"] : List Str) by decide +kernel) rfl (Or.inl rfl)) pgs_nil))))) (fun _ _ _ _ _ => pf_nil) (fun _ _ _ _ _ => (pv 0))) pa_nil)))
      (pss_cons (ps_set (i := 4) sc_kept_marks.nd rfl (Or.inl rfl) (pe_lst pa_nil))
      (pss_cons (ps_for PassesOwn.never (by rfl) (kPI (K := K) (fun k => iList k _) (pi_list (pv 0))) (kPG (K := K) (fun k => gTup k 2 _) (pg_tup (n := 2) (by rfl) (pgs_cons (pg_name (i := 5) sc_kept_marks.nd rfl (Or.inr rfl)) (pgs_cons (pg_name (i := 6) sc_kept_marks.nd rfl (Or.inr rfl)) pgs_nil)))) (pss_one (ps_expr (kPE (K := K) (fun k => tBM k _ _ _ _) (pe_bm PySem.F.plainAttrs_list PySem.F.slot_list_extend PySem.F.type_list_extend mt_extend (pv 4) (pa_cons (pe_comp rfl (blk_mk (N' := ["other", "word", "room", "count"]) (js := [none, some 6, some 5, some 2]) rfl (by decide +kernel) rfl (by decide +kernel) rfl rfl) (kPI (K := K) (fun k => iList k _) (pi_list (pv 3))) (fun _ _ _ _ _ => (pg_name (i := 0) (show List.Nodup (["other", "word", "room", "count"] : List Str) by decide +kernel) rfl (Or.inl rfl))) (fun _ _ _ _ _ => pf_nil) (fun _ _ _ _ _ => (pe_tup (pa_cons (pe_op op_add (pe_op op_mul (pv 2) (pv 3)) (pv 0)) (pa_cons (pv 1) pa_nil))))) pa_nil))))))
      (pss_one (ps_ret (pv 4)))))), ?_⟩
  obtain ⟨xm, m1, m2⟩ := hM
  obtain ⟨xo, o1, o2⟩ := hT
  have lxo : T.length = xo.length := o2.length
  have lxm : M.length = xm.length := m2.length
  refine ⟨_, rfl, o, rfl, ⟨xo, o1⟩, ?_⟩
  refine comp_list (xs := xo) (fun i ys τ H' => H = H' ∧ (∃ x y, τ = [x, y]) ∧ i ≤ xo.length ∧ ys = ((T.take i).map (·.1)).map V.int) ⟨rfl, ⟨_, _, rfl⟩, Nat.zero_le _, rfl⟩ (fun i ys τ H' z => z.1 ▸ o1) ?_ ?_
  · rintro i x ys τ _ hx ⟨rfl, ⟨x0, y0, rfl⟩, hi, rfl⟩
    obtain ⟨m, hm, b, rfl, hb⟩ := paired_get o2 hx
    have hil : i < xo.length := (List.getElem?_eq_some_iff.mp hx).1
    refine ⟨b, _, rfl, hb, rfl, _, _, rfl, _, _, rfl, rfl, ?_⟩
    refine ⟨_, rfl, szl' (by rw [List.length_map, List.length_map, List.length_take]; omega), rfl, ⟨_, _, rfl⟩, hil, ?_⟩
    rw [take_get hm, List.map_append, List.map_append]; rfl
  rintro ys τ _ ⟨rfl, _, _, rfl⟩ pl hpl
  rw [← lxo, List.take_length]
  have gl := same_new hpl (.lst ((T.map (·.1)).map V.int))
  have el := upd_same (H := H) (a := pl) (o := .lst ((T.map (·.1)).map V.int))
  generalize upd H pl (.lst ((T.map (·.1)).map V.int)) = H1 at gl el ⊢
  refine ⟨pl, rfl, .inl ⟨T.map (·.1), SqL.of el, by rw [List.length_map]; omega, fun lr H2 g2 hlr elr => ?_⟩⟩
  have hol := once_len (T.map (·.1))
  rw [List.length_map] at hol
  have g02 := gl.trans g2
  have hRR : kpM n M T = M.flatMap fun m => (onceM (T.map (·.1))).map fun q => (m.1 * n + q, m.2) := rfl
  refine ⟨szl (by simp), fun pk hpk => ?_⟩
  have gk := same_new hpk (.lst [])
  have ek := upd_same (H := H2) (a := pk) (o := .lst [])
  generalize upd H2 pk (.lst []) = H3 at gk ek ⊢
  have m2' := paired_mono (fun _ _ => MkV.mono (Same.grow g02)) m2
  refine ⟨_, rfl, p, rfl, ⟨xm, (g02.trans gk).seq m1⟩, ?_⟩
  refine for_list (xs := xm) (fun i σ H' => Same H2 H' ∧ i ≤ xm.length ∧ (∃ x5 x6, σ = [some (.ref p), some (.ref o), some (.int n), some (.ref lr), some (.ref pk), x5, x6]) ∧ ∃ zs, H' pk = some (.lst zs) ∧ Paired (MkH H') (kpM n (M.take i) T) zs)
    ⟨gk, Nat.zero_le _, ⟨_, _, rfl⟩, [], ek, .nil⟩ (fun i σ H' _ z => (g02.trans z.1).seq m1) ?_ ?_
  · rintro i x σ H5 hx ⟨g5, hi, ⟨x5, x6, rfl⟩, zs, ez, hP⟩
    obtain ⟨m, hm, b, rfl, hb⟩ := paired_get m2' hx
    have hil : i < xm.length := (List.getElem?_eq_some_iff.mp hx).1
    have hb1 := (Same.grow g5).seqT hb
    have elr5 := g5 _ _ elr
    have hzl : zs.length ≤ 9801 := by rw [← hP.length]; have := kpM_len n T lT (M.take i); rw [List.length_take] at this; omega
    refine ⟨b, _, rfl, hb1, rfl, _, _, rfl, _, _, rfl, rfl, ?_⟩
    refine ⟨_, rfl, .inl ⟨rfl, _, SqL.of ez⟩, ?_⟩
    refine ⟨_, rfl, lr, rfl, ⟨_, SqL.of elr5⟩, ?_⟩
    refine comp_list (xs := (onceM (T.map (·.1))).map V.int) (fun j ys τ H' => Same H5 H' ∧ (∃ x, τ = [x, some (.str m.2), some (.int m.1), some (.int n)]) ∧ j ≤ (onceM (T.map (·.1))).length ∧ Paired (MkH H') (((onceM (T.map (·.1))).take j).map fun q => (m.1 * n + q, m.2)) ys) ⟨Same.refl _, ⟨_, rfl⟩, Nat.zero_le _, .nil⟩ (fun j ys τ H' z => z.1.seq (SqL.of elr5)) ?_ ?_
    · rintro j y ys τ H6 hy ⟨g6, ⟨x0, rfl⟩, hj, hPy⟩
      rw [List.getElem?_map] at hy
      obtain ⟨r, hr, rfl⟩ := Option.map_eq_some_iff.mp hy
      have hjl : j < (onceM (T.map (·.1))).length := (List.getElem?_eq_some_iff.mp hr).1
      have hyl : ys.length ≤ 99 := by rw [← hPy.length, List.length_map, List.length_take]; omega
      refine ⟨_, rfl, _, rfl, _, _, rfl, rfl, .inr ⟨by have := hn.1; have := hn.2; omega, by have := hn.1; have := hn.2; omega⟩, _, rfl, _, _, rfl, rfl, _, rfl, (by show 2 ≤ sizeLine; decide), fun p hp => ⟨szl' (by omega), g6.trans (same_new hp _), ⟨_, rfl⟩, hjl, ?_⟩⟩
      rw [take_get hr, List.map_append]
      exact paired_append (paired_mono (fun _ _ => MkH.mono (grow_new hp _)) hPy) (.cons ⟨p, rfl, upd_same⟩ .nil)
    rintro ys τ H6 ⟨g6, _, _, hPy⟩ py hpy
    rw [List.length_map, List.take_length] at hPy
    have hyl : ys.length ≤ 99 := by rw [← hPy.length, List.length_map]; omega
    have gy := same_new hpy (.lst ys)
    have ey := upd_same (H := H6) (a := py) (o := .lst ys)
    have g56 := g6.trans gy
    have ez := g56 _ _ ez
    have hP := paired_mono (fun _ _ => MkH.mono (Same.grow g56)) hP
    have hPy := paired_mono (fun _ _ => MkH.mono (Same.grow gy)) hPy
    have g6 := g5.trans g56
    generalize upd H6 py (.lst ys) = H7 at ey ez hP hPy g6 ⊢
    refine ⟨pk, py, zs, ys, rfl, rfl, ez, ey, szl (by omega), same_updN g6 hpk, hil, ⟨_, _, rfl⟩, zs ++ ys, upd_same, ?_⟩
    have gt : GT H7 (upd H7 pk (.lst (zs ++ ys))) := gt_upd ez (fun _ z => nomatch z) (fun _ _ z => nomatch z) _
    rw [kpM_take hm]
    exact paired_append (paired_mono (fun _ _ => MkH.mono (grow_upd ez _)) hP) (paired_mono (fun _ _ => MkH.mono (grow_upd ez _)) hPy)
  rintro σ H5 ⟨g5, _, ⟨x5, x6, rfl⟩, zs, ez, hP⟩
  rw [← lxm, List.take_length] at hP
  exact ⟨_, rfl, q pk _ (g02.trans g5) (g02.free hpk) ⟨zs, ez, hP⟩⟩

theorem sc_moves_by_sign : FnScope ["steps", "moves", "start", "sign", "goal"] ["steps"] (defScope s_moves_by_sign) := ⟨rfl, rfl, rfl, by decide +kernel, rfl, by decide +kernel, by decide +kernel⟩
theorem ok_moves_by_sign (B : Bi mg) {c_OtherSigns c_TooMany : Addr} (XB : Xb K mg c_OtherSigns c_TooMany) (C_each_once : Cal P w K mg base "each_once" ["parts"] 1 (spOnce K)) {f : Addr} {fd : FuncData} (F : Fun K "moves_by_sign" "moves_by_sign" s_moves_by_sign f fd) : FnOk P w K mg base CX0 2 f fd ["steps"] (spMoves K) := by
  refine F.ok sc_moves_by_sign (fun vs H Q E h => ?_) (fun cdv A outer s H vs Q E hr h => ?_)
  · obtain ⟨p, T, rfl, _⟩ := h; rfl
  obtain ⟨p, T, rfl, hT, lT, q⟩ := h
  refine ⟨_, (pss_cons (ps_set (i := 1) sc_moves_by_sign.nd rfl (Or.inl rfl) pe_dnewK)
      (pss_cons (ps_for PassesOwn.never (by rfl) (kPI (K := K) (fun k => iList k _) (pi_list (pe_fn C_each_once hr (by decide : 1 ≤ 1) (by rfl) (pa_cons (pe_comp rfl (blk_mk (N' := ["step"]) (js := [none]) rfl (by decide +kernel) rfl (by decide +kernel) rfl rfl) (kPI (K := K) (fun k => iList k _) (pi_list (pv 0))) (fun _ _ _ _ _ => (pg_name (i := 0) (show List.Nodup (["step"] : List Str) by decide +kernel) rfl (Or.inl rfl))) (fun _ _ _ _ _ => pf_nil) (fun _ _ _ _ _ => (pe_tup (pa_cons (pe_ix (kIx (K := K) rIxT ix_tup) (pv 0) pe_int (by intro _ _; rfl)) (pa_cons (pe_ix (kIx (K := K) rIxT ix_tup) (pv 0) pe_int (by intro _ _; rfl)) (pa_cons (pe_ix (kIx (K := K) rIxT ix_tup) (pv 0) pe_int (by intro _ _; rfl)) pa_nil)))))) pa_nil)))) (kPG (K := K) (fun k => gTup k 3 _) (pg_tup (n := 3) (by rfl) (pgs_cons (pg_name (i := 2) sc_moves_by_sign.nd rfl (Or.inl rfl)) (pgs_cons (pg_name (i := 3) sc_moves_by_sign.nd rfl (Or.inl rfl)) (pgs_cons (pg_name (i := 4) sc_moves_by_sign.nd rfl (Or.inl rfl)) pgs_nil))))) (pss_one (ps_expr (kPE (K := K) (fun k => tBM k _ _ _ _) (pe_bm PySem.F.plainAttrs_list PySem.F.slot_list_append PySem.F.type_list_append mt_append (kPE (K := K) (fun k => tBM k _ _ _ _) (pe_bm PySem.F.plainAttrs_dict PySem.F.slot_dict_setdefault PySem.F.type_dict_setdefault (mt_setdefault hr) (pv 1) (pa_cons (pv 3) (pa_cons (pe_lst pa_nil) pa_nil)))) (pa_cons (pe_tup (pa_cons (pv 2) (pa_cons (pv 4) pa_nil))) pa_nil))))))
      (pss_one (ps_ret (pv 1))))), ?_⟩
  obtain ⟨xo, o1, o2⟩ := hT
  have lxo : T.length = xo.length := o2.length
  refine fun d hd => ?_
  have gd := same_new hd (.dK [])
  have ed := upd_same (H := H) (a := d) (o := .dK [])
  have o2d := paired_mono (fun _ _ => StV.mono (Same.grow gd)) o2
  generalize upd H d (.dK []) = Hd at gd ed o2d ⊢
  refine ⟨_, rfl, p, rfl, ⟨xo, gd.seq o1⟩, ?_⟩
  refine comp_list (xs := xo) (fun i ys τ H' => Same Hd H' ∧ (∃ x, τ = [x]) ∧ i ≤ xo.length ∧ Paired (KyR H') (((T.take i).map mvOf).map k3) ys) ⟨Same.refl _, ⟨_, rfl⟩, Nat.zero_le _, .nil⟩ (fun i ys τ H' z => z.1.seq (gd.seq o1)) ?_ ?_
  · rintro i x ys τ H1 hx ⟨g1, ⟨x0, rfl⟩, hi, hP⟩
    obtain ⟨t, ht, b, rfl, hb⟩ := paired_get o2d hx
    have hil : i < xo.length := (List.getElem?_eq_some_iff.mp hx).1
    have hb1 := (Same.grow g1).seqT hb
    have hyl : ys.length ≤ 99 := by rw [← hP.length, List.length_map, List.length_map, List.length_take]; omega
    refine ⟨_, rfl, _, _, _, _, rfl, rfl, hb1, rfl, _, rfl, _, _, _, _, rfl, rfl, hb1, rfl, _, rfl, _, _, _, _, rfl, rfl, hb1, rfl, (by show 3 ≤ sizeLine; decide), fun p hp => ⟨szl' (by omega), g1.trans (same_new hp _), ⟨_, rfl⟩, hil, ?_⟩⟩
    rw [take_get ht, List.map_append, List.map_append]
    exact paired_append (paired_mono (fun _ _ => KyR.mono (same_new hp _)) hP) (.cons ⟨p, rfl, upd_same⟩ .nil)
  rintro ys τ H1 ⟨g1, _, _, hP⟩ pl hpl
  rw [← lxo, List.take_length] at hP
  have gl := same_new hpl (.lst ys)
  have el := upd_same (H := H1) (a := pl) (o := .lst ys)
  have hP := paired_mono (fun _ _ => KyR.mono gl) hP
  have g1 := g1.trans gl
  generalize upd H1 pl (.lst ys) = H2 at el hP g1 ⊢
  refine ⟨pl, rfl, .inr ⟨ys, _, SqL.of el, hP, by rw [List.length_map, List.length_map]; omega, fun lm H3 bs g3 hlm elm hB => ?_⟩⟩
  rw [once_map k3_inj] at hB
  have hBl : (mvs T).length = bs.length := by have := hB.length; rw [List.length_map] at this; exact this
  have hml : (mvs T).length ≤ 99 := by have := once_len (T.map mvOf); rw [List.length_map] at this; exact Nat.le_trans this lT
  have g13 := g1.trans g3
  have ed3 := g13 _ _ ed
  refine ⟨lm, rfl, ⟨_, SqL.of elm⟩, ?_⟩
  have hlmd : lm ≠ d := fun z => by rw [z, ed3] at elm; cases elm
  refine for_list (xs := bs.map V.ref) (fun i σ H' => Same H H' ∧ i ≤ bs.length ∧ (∃ x2 x3 x4, σ = [some (.ref p), some (.ref d), x2, x3, x4]) ∧ H' lm = some (.lst (bs.map V.ref)) ∧ GT H3 H' ∧ ∃ kvs : List (Key × V), H' d = some (.dK kvs) ∧ Bk (PrV K) mvKey H H' d ((mvs T).take i) kvs ∧ ∀ k, valV kvs k ≠ some (.ref lm))
    ⟨gd.trans g13, Nat.zero_le _, ⟨_, _, _, rfl⟩, elm, GT.of (Same.refl _), [], ed3, Bk.nil, fun k z => by cases z⟩ (fun i σ H' _ z => SqL.of z.2.2.2.1) ?_ ?_
  · rintro i x σ H5 hx ⟨g5, hi, ⟨x2, x3, x4, rfl⟩, elm5, gt5, kvs, hkd, bk, hlk⟩
    rw [List.getElem?_map] at hx
    obtain ⟨b, hb, rfl⟩ := Option.map_eq_some_iff.mp hx
    have hil : i < bs.length := (List.getElem?_eq_some_iff.mp hb).1
    obtain ⟨k, hk, ebk⟩ := paired_get hB hb
    rw [List.getElem?_map] at hk
    obtain ⟨u, hu, rfl⟩ := Option.map_eq_some_iff.mp hk
    replace hu : (mvs T)[i]? = some u := hu
    have hb1 : SqT K H5 b [V.int u.1, V.str u.2.1, V.int u.2.2] := gt5.seqT (SqT.of ebk)
    have hkl : kvs.length ≤ 999 := by have := bk.len; rw [List.length_take] at this; omega
    refine ⟨b, _, rfl, hb1, rfl, _, _, rfl, _, _, rfl, _, _, rfl, rfl, ?_⟩
    refine ⟨_, rfl, .inr (.inr (.inl ⟨rfl, .inl ⟨kvs, hkd⟩⟩)), ?_⟩
    refine ⟨_, rfl, szl (by simp), fun l hl => ?_⟩
    have gl := same_new hl (.lst [])
    have hk2 := gl _ _ hkd
    have bk2 := bk.mono (prv_gt K) gl
    have g2 := g5.trans gl
    have el : upd H5 l (.lst []) l = some (.lst []) := upd_same
    have hl0 : H l = none := g5.free hl
    have hln : ∀ k, valV kvs k ≠ some (.ref l) := fun k hk => by
      obtain ⟨l', ys, e, _, _, h3', _⟩ := bk.there k _ hk
      injection e with e
      subst e
      rw [h3'] at hl; cases hl
    have hld : l ≠ d := (ne_of_none hkd hl).symm
    have hllm : lm ≠ l := ne_of_none elm5 hl
    have elm2 := gl _ _ elm5
    have gt2 := gt5.trans (GT.of gl)
    generalize upd H5 l (.lst []) = H6 at hk2 bk2 g2 el elm2 gt2 ⊢
    refine ⟨d, .str u.2.1, .ref l, rfl, rfl, .inl ⟨kvs, mvKey u, hk2, rfl, szl' (by omega), fun r hr2 => ?_, fun hn => ?_⟩⟩
    · obtain ⟨l2, ys, rfl, j1, j2, j3, j4, j5⟩ := bk2.there _ _ hr2
      have hyl : ys.length ≤ 999 := by
        rw [← j4.length]
        have := List.length_filter_le (fun t' => decide (mvKey t' = mvKey u)) ((mvs T).take i)
        rw [List.length_take] at this; omega
      have hl2m : lm ≠ l2 := fun z => hlk _ (z ▸ hr2)
      refine ⟨.inl ⟨rfl, _, SqL.of j3⟩, _, rfl, _, rfl, (by show 2 ≤ sizeLine; decide), fun p2 hp2 => ?_⟩
      have gp := same_new hp2 (.tup [V.int u.1, V.int u.2.2])
      have ep := upd_same (H := H6) (a := p2) (o := .tup [V.int u.1, V.int u.2.2])
      have j3 := gp _ _ j3
      have hk2 := gp _ _ hk2
      have bk2 := bk2.mono (prv_gt K) gp
      have g2 := g2.trans gp
      have elm2 := gp _ _ elm2
      have gt2 := gt2.trans (GT.of gp)
      dsimp only at hp2 ⊢
      generalize upd H6 p2 (.tup [V.int u.1, V.int u.2.2]) = H7 at ep j3 hk2 bk2 g2 elm2 gt2 ⊢
      refine ⟨l2, ys, _, rfl, rfl, j3, szl' (by omega), ?_⟩
      refine ⟨same_updN g2 j1, hil, ⟨_, _, _, rfl⟩, (upd_ne hl2m).trans elm2, gt2.trans (gt_lst j3 _), kvs, by rw [upd_ne j2.symm]; exact hk2, ?_, hlk⟩
      rw [take_get hu]
      exact bk2.put (prv_gt K) hr2 j3 ⟨p2, rfl, SqT.of ep⟩
    · have e3 : upd H6 d (.dK (putK kvs (mvKey u) (.ref l))) l = some (.lst []) := by rw [upd_ne hld]; exact el
      refine ⟨.inl ⟨rfl, _, SqL.of e3⟩, _, rfl, _, rfl, (by show 2 ≤ sizeLine; decide), fun p2 hp2 => ?_⟩
      have hp2' : H6 p2 = none := by
        by_cases z : p2 = d
        · subst z; rw [upd_same] at hp2; cases hp2
        · rwa [upd_ne z] at hp2
      have hpd : p2 ≠ d := fun z => by subst z; rw [upd_same] at hp2; cases hp2
      have hpl2 : p2 ≠ l := (ne_of_none el hp2').symm
      have gp := same_new hp2' (.tup [V.int u.1, V.int u.2.2])
      have ep := upd_same (H := H6) (a := p2) (o := .tup [V.int u.1, V.int u.2.2])
      have e4 : upd (upd H6 d (.dK (putK kvs (mvKey u) (.ref l)))) p2 (.tup [V.int u.1, V.int u.2.2]) = upd (upd H6 p2 (.tup [V.int u.1, V.int u.2.2])) d (.dK (putK kvs (mvKey u) (.ref l))) := by
        funext z
        by_cases z1 : z = p2
        · subst z1; rw [upd_same, upd_ne hpd, upd_same]
        · by_cases z2 : z = d
          · subst z2; rw [upd_ne z1, upd_same, upd_same]
          · rw [upd_ne z1, upd_ne z2, upd_ne z2, upd_ne z1]
      dsimp only at hp2 ⊢
      rw [e4]
      have hk2 := gp _ _ hk2
      have bk2 := bk2.mono (prv_gt K) gp
      have g2 := g2.trans gp
      have el := gp _ _ el
      have elm2 := gp _ _ elm2
      have gt2 := gt2.trans (GT.of gp)
      clear e3 e4
      generalize upd H6 p2 (.tup [V.int u.1, V.int u.2.2]) = H7 at ep hk2 bk2 g2 el elm2 gt2 ⊢
      have e3 : upd H7 d (.dK (putK kvs (mvKey u) (.ref l))) l = some (.lst []) := by rw [upd_ne hld]; exact el
      refine ⟨l, [], _, rfl, rfl, e3, szl' (by simp), ?_⟩
      refine ⟨same_updN (same_updN g2 hd) hl0, hil, ⟨_, _, _, rfl⟩, by rw [upd_ne hllm, upd_ne hlmd]; exact elm2, (gt2.trans (gt_upd hk2 (fun _ z => nomatch z) (fun _ _ z => nomatch z) _)).trans (gt_lst e3 _), putK kvs (mvKey u) (.ref l), by rw [upd_ne hld.symm]; exact upd_same, ?_, ?_⟩
      · rw [take_get hu]
        exact bk2.new (prv_gt K) hn hl0 hld hk2 (fun _ z => nomatch z) (fun _ _ z => nomatch z) hln el ⟨p2, rfl, SqT.of ep⟩
      · intro k z
        rw [valV_put] at z
        by_cases c : k = mvKey u
        · rw [if_pos c] at z; injection z with z; injection z with z; exact hllm z.symm
        · rw [if_neg c] at z; exact hlk k z
  rintro σ H5 ⟨g5, _, ⟨x2, x3, x4, rfl⟩, _, _, kvs, hkd, bk, _⟩
  rw [List.length_map, ← hBl, List.take_length] at bk
  exact ⟨_, rfl, q _ _ g5 ⟨d, kvs, rfl, hkd, bk⟩⟩

theorem sc_kept_steps : FnScope ["steps", "others", "count", "moves", "kept", "start", "sign", "word", "goal", "out_of", "into"] ["steps", "others", "count"] (defScope s_kept_steps) := ⟨rfl, rfl, rfl, by decide +kernel, rfl, by decide +kernel, by decide +kernel⟩
theorem ok_kept_steps (B : Bi mg) {c_OtherSigns c_TooMany : Addr} (XB : Xb K mg c_OtherSigns c_TooMany) (C_moves_by_sign : Cal P w K mg base "moves_by_sign" ["steps"] 2 (spMoves K)) {f : Addr} {fd : FuncData} (F : Fun K "kept_steps" "kept_steps" s_kept_steps f fd) : FnOk P w K mg base CX0 3 f fd ["steps", "others", "count"] (spKeptS K) := by
  refine F.ok sc_kept_steps (fun vs H Q E h => ?_) (fun cdv A outer s H vs Q E hr h => ?_)
  · obtain ⟨p, o, n, M, T, rfl, _⟩ := h; rfl
  obtain ⟨p, o, n, M, T, rfl, hM, hT, lM, lT, hn, q⟩ := h
  refine ⟨_, (pss_cons (ps_set (i := 3) sc_kept_steps.nd rfl (Or.inl rfl) (pe_fn C_moves_by_sign hr (by decide : 2 ≤ 2) (by rfl) (pa_cons (pv 1) pa_nil)))
      (pss_cons (ps_set (i := 4) sc_kept_steps.nd rfl (Or.inl rfl) (pe_lst pa_nil))
      (pss_cons (ps_for PassesOwn.never (by rfl) (kPI (K := K) (fun k => iList k _) (pi_list (pv 0))) (kPG (K := K) (fun k => gTup k 4 _) (pg_tup (n := 4) (by rfl) (pgs_cons (pg_name (i := 5) sc_kept_steps.nd rfl (Or.inl rfl)) (pgs_cons (pg_name (i := 6) sc_kept_steps.nd rfl (Or.inl rfl)) (pgs_cons (pg_name (i := 7) sc_kept_steps.nd rfl (Or.inl rfl)) (pgs_cons (pg_name (i := 8) sc_kept_steps.nd rfl (Or.inl rfl)) pgs_nil)))))) (pss_one (ps_for PassesOwn.never (by rfl) (kPI (K := K) (fun k => iList k _) (pi_list (kPE (K := K) (fun k => tBM k _ _ _ _) (pe_bm PySem.F.plainAttrs_dict PySem.F.slot_dict_get PySem.F.type_dict_get (mt_get2 hr) (pv 3) (pa_cons (pv 6) (pa_cons (pe_lst pa_nil) pa_nil)))))) (kPG (K := K) (fun k => gTup k 2 _) (pg_tup (n := 2) (by rfl) (pgs_cons (pg_name (i := 9) sc_kept_steps.nd rfl (Or.inl rfl)) (pgs_cons (pg_name (i := 10) sc_kept_steps.nd rfl (Or.inl rfl)) pgs_nil)))) (pss_one (ps_expr (kPE (K := K) (fun k => tBM k _ _ _ _) (pe_bm PySem.F.plainAttrs_list PySem.F.slot_list_append PySem.F.type_list_append mt_append (pv 4) (pa_cons (pe_tup (pa_cons (pe_op op_add (pe_op op_mul (pv 5) (pv 2)) (pv 9)) (pa_cons (pv 6) (pa_cons (pv 7) (pa_cons (pe_op op_add (pe_op op_mul (pv 8) (pv 2)) (pv 10)) pa_nil))))) pa_nil))))))))
      (pss_one (ps_ret (pv 4)))))), ?_⟩
  obtain ⟨xm, m1, m2⟩ := hM
  have lxm : M.length = xm.length := m2.length
  have hn0 := hn.1
  have hn1 := hn.2
  refine ⟨_, rfl, o, T, rfl, hT, lT, fun vd H1 g1 hD => ?_⟩
  have hml : (mvs T).length ≤ 99 := by have := once_len (T.map mvOf); rw [List.length_map] at this; exact Nat.le_trans this lT
  refine ⟨szl (by simp), fun pk hpk => ?_⟩
  have gk := same_new hpk (.lst [])
  have ek := upd_same (H := H1) (a := pk) (o := .lst [])
  generalize upd H1 pk (.lst []) = H3 at gk ek ⊢
  have m2' := paired_mono (fun _ _ => StV.mono (Same.grow g1)) m2
  refine ⟨_, rfl, p, rfl, ⟨xm, (g1.trans gk).seq m1⟩, ?_⟩
  refine for_list (xs := xm) (fun i σ H' => Same H1 H' ∧ i ≤ xm.length ∧ (∃ x5 x6 x7 x8 x9 x10, σ = [some (.ref p), some (.ref o), some (.int n), some vd, some (.ref pk), x5, x6, x7, x8, x9, x10]) ∧ ∃ zs, H' pk = some (.lst zs) ∧ Paired (StV K H') (kpT n (M.take i) T) zs)
    ⟨gk, Nat.zero_le _, ⟨_, _, _, _, _, _, rfl⟩, [], ek, .nil⟩ (fun i σ H' _ z => (g1.trans z.1).seq m1) ?_ ?_
  · rintro i x σ H5 hx ⟨g5, hi, ⟨x5, x6, x7, x8, x9, x10, rfl⟩, zs, ez, hP⟩
    obtain ⟨t, ht, b, rfl, hb⟩ := paired_get m2' hx
    have hil : i < xm.length := (List.getElem?_eq_some_iff.mp hx).1
    have hb1 := (Same.grow g5).seqT hb
    refine ⟨b, _, rfl, hb1, rfl, _, _, rfl, _, _, rfl, _, _, rfl, _, _, rfl, rfl, ?_⟩
    obtain ⟨d0, kv0, e0, hd0, _⟩ := id (hD.mono g5)
    subst e0
    refine ⟨_, rfl, .inr (.inr (.inl ⟨rfl, .inl ⟨kv0, hd0⟩⟩)), _, rfl, szl (by simp), fun l hl => ?_⟩
    have hlk : l ≠ pk := (ne_of_none ez hl).symm
    have gl := same_new hl (.lst [])
    have el := upd_same (H := H5) (a := l) (o := .lst [])
    have ez2 := gl _ _ ez
    have hP2 := paired_mono (fun _ _ => StV.mono (Same.grow gl)) hP
    have g6 := g5.trans gl
    generalize upd H5 l (.lst []) = H6 at el ez2 hP2 g6 ⊢
    obtain ⟨d, oo, la, ys, ed, hget, hgd, hla, hpy, hor⟩ := hD.get3 (g := t.2.1) g6 el
    injection ed with ed
    subst ed
    have hlp : la ≠ pk := by
      rcases hor with z | ⟨u, hu⟩
      · rw [z]; exact hlk
      · exact ne_of_none hu hpk
    refine ⟨d0, _, _, oo, rfl, rfl, hget, ?_⟩
    rw [hgd]
    refine ⟨la, rfl, ⟨ys, SqL.of hla⟩, ?_⟩
    have lz : (kpT n (M.take i) T).length ≤ 9801 := by have := kpT_len n T lT (M.take i); rw [List.length_take] at this; omega
    have ly : ys.length ≤ 99 := by rw [← hpy.length]; exact Nat.le_trans (List.length_filter_le _ _) hml
    refine for_list (xs := ys) (fun j σ H' => Same H1 H' ∧ j ≤ ys.length ∧ (∃ x9 x10, σ = [some (.ref p), some (.ref o), some (.int n), some (.ref d0), some (.ref pk), some (.int t.1), some (.str t.2.1), some (.str t.2.2.1), some (.int t.2.2.2), x9, x10]) ∧ H' la = some (.lst ys) ∧ GT H6 H' ∧ ∃ zs, H' pk = some (.lst zs) ∧ Paired (StV K H') (kpT n (M.take i) T ++ (((mvs T).filter (fun u => decide (u.2.1 = t.2.1))).take j).map (onT n t)) zs)
      ⟨g6, Nat.zero_le _, ⟨_, _, rfl⟩, hla, GT.of (Same.refl _), zs, ez2, by rw [List.take_zero, List.map_nil, List.append_nil]; exact hP2⟩ (fun j σ H' _ z => SqL.of z.2.2.2.1) ?_ ?_
    · rintro j y σ H7 hy ⟨g7, hj, ⟨x9, x10, rfl⟩, hla7, gt7, zs, ez, hP⟩
      obtain ⟨u, hu, b2, rfl, hb2⟩ := paired_get hpy hy
      have hjl : j < ys.length := (List.getElem?_eq_some_iff.mp hy).1
      have hb27 := gt7.seqT hb2
      have hzl : zs.length ≤ 9999 := by rw [← hP.length, List.length_append, List.length_map, List.length_take]; omega
      refine ⟨b2, _, rfl, hb27, rfl, _, _, rfl, _, _, rfl, rfl, ?_⟩
      refine ⟨_, rfl, .inl ⟨rfl, _, SqL.of ez⟩, _, rfl, _, rfl, _, _, rfl, rfl, .inr ⟨by omega, by omega⟩, _, rfl, _, _, rfl, rfl, _, rfl, _, rfl, _, rfl, _, rfl, _, _, rfl, rfl, .inr ⟨by omega, by omega⟩, _, rfl, _, _, rfl, rfl, (by show 4 ≤ sizeLine; decide), fun p2 hp2 => ?_⟩
      have gp := same_new hp2 (.tup [V.int (t.1 * n + u.1), V.str t.2.1, V.str t.2.2.1, V.int (t.2.2.2 * n + u.2.2)])
      have ep := upd_same (H := H7) (a := p2) (o := .tup [V.int (t.1 * n + u.1), V.str t.2.1, V.str t.2.2.1, V.int (t.2.2.2 * n + u.2.2)])
      have ez := gp _ _ ez
      have hla7 := gp _ _ hla7
      have gt7 := gt7.trans (GT.of gp)
      have g8 := g7.trans gp
      have hP := paired_mono (fun _ _ => StV.mono (Same.grow gp)) hP
      dsimp only at hp2 ⊢
      generalize upd H7 p2 (.tup [V.int (t.1 * n + u.1), V.str t.2.1, V.str t.2.2.1, V.int (t.2.2.2 * n + u.2.2)]) = H8 at ep ez hla7 gt7 g8 hP ⊢
      have gt : GT H8 (upd H8 pk (.lst (zs ++ [.ref p2]))) := gt_upd ez (fun _ z => nomatch z) (fun _ _ z => nomatch z) _
      refine ⟨pk, zs, _, rfl, rfl, ez, szl' (by omega), same_updN g8 hpk, hjl, ⟨_, _, rfl⟩, (upd_ne hlp).trans hla7, gt7.trans gt, zs ++ [.ref p2], upd_same, ?_⟩
      rw [take_get hu, List.map_append, ← List.append_assoc]
      exact paired_append (paired_mono (fun _ _ => StV.gt gt) hP) (.cons ⟨p2, rfl, gt.seqT (SqT.of ep)⟩ .nil)
    rintro σ H7 ⟨g7, _, ⟨x9, x10, rfl⟩, _, _, zs, ez, hP⟩
    refine ⟨g7, hil, ⟨_, _, _, _, _, _, rfl⟩, zs, ez, ?_⟩
    rw [← hpy.length, List.take_length] at hP
    rw [kpT_take ht]
    exact hP
  rintro σ H5 ⟨g5, _, ⟨x5, x6, x7, x8, x9, x10, rfl⟩, zs, ez, hP⟩
  rw [← lxm, List.take_length] at hP
  exact ⟨_, rfl, q pk _ (g1.trans g5) (g1.free hpk) ⟨zs, ez, hP⟩⟩

theorem sc_kept_to : FnScope ["scribe", "other", "count", "begins", "steps", "ends"] ["scribe", "other"] (defScope s_kept_to) := ⟨rfl, rfl, rfl, by decide +kernel, rfl, by decide +kernel, by decide +kernel⟩
theorem ok_kept_to (B : Bi mg) {c_OtherSigns c_TooMany : Addr} (XB : Xb K mg c_OtherSigns c_TooMany) (C_refuse_other_signs : Cal1 P w K mg base "refuse_other_signs" ["one", "other"] 1 (spOther K c_OtherSigns)) (C_refuse_many_pairs : Cal1 P w K mg base "refuse_many_pairs" ["one", "other"] 1 (spPairsN K c_TooMany)) (C_kept_marks : Cal P w K mg base "kept_marks" ["marks", "others", "count"] 2 (spKeptM K)) (C_kept_steps : Cal P w K mg base "kept_steps" ["steps", "others", "count"] 3 (spKeptS K)) {f : Addr} {fd : FuncData} (F : Fun K "kept_to" "kept_to" s_kept_to f fd) : FnOk P w K mg base (CX1 P w) 4 f fd ["scribe", "other"] (spKept K c_OtherSigns c_TooMany) := by
  refine Fun.ok1 F sc_kept_to (fun vs H Q E h => ?_) (fun cdv A outer s H vs Q E hr h => ?_)
  · obtain ⟨v, s, pb, ps, pe, w, u, qb, qs, qe, rfl, _⟩ := h; rfl
  obtain ⟨v, s, pb, ps, pe, w, u, qb, qs, qe, rfl, hV, hU, ls_, lu, hn, hm, qS, qT, q⟩ := h
  refine ⟨_, (pss_cons (ps_expr (pe_fn1 C_refuse_other_signs hr (by decide : 1 ≤ 3) (by rfl) pass_on (pa_cons (pv 0) (pa_cons (pv 1) pa_nil))))
      (pss_cons (ps_expr (pe_fn1 C_refuse_many_pairs hr (by decide : 1 ≤ 3) (by rfl) pass_on (pa_cons (pv 0) (pa_cons (pv 1) pa_nil))))
      (pss_cons (ps_set (i := 2) sc_kept_to.nd rfl (Or.inl rfl) (pe_ix (kIx (K := K) rIxT ix_tup) (pv 1) (pe_globI (by rfl) B.ROOMS) (by intro _ _; rfl)))
      (pss_cons (ps_set (i := 3) sc_kept_to.nd rfl (Or.inl rfl) (pe_fn C_kept_marks hr (by decide : 2 ≤ 3) (by rfl) (pa_cons (pe_ix (kIx (K := K) rIxT ix_tup) (pv 0) (pe_globI (by rfl) B.BEGINS) (by intro _ _; rfl)) (pa_cons (pe_ix (kIx (K := K) rIxT ix_tup) (pv 1) (pe_globI (by rfl) B.BEGINS) (by intro _ _; rfl)) (pa_cons (pv 2) pa_nil)))))
      (pss_cons (ps_set (i := 4) sc_kept_to.nd rfl (Or.inl rfl) (pe_fn C_kept_steps hr (by decide : 3 ≤ 3) (by rfl) (pa_cons (pe_ix (kIx (K := K) rIxT ix_tup) (pv 0) (pe_globI (by rfl) B.STEPS) (by intro _ _; rfl)) (pa_cons (pe_ix (kIx (K := K) rIxT ix_tup) (pv 1) (pe_globI (by rfl) B.STEPS) (by intro _ _; rfl)) (pa_cons (pv 2) pa_nil)))))
      (pss_cons (ps_set (i := 5) sc_kept_to.nd rfl (Or.inl rfl) (pe_fn C_kept_marks hr (by decide : 2 ≤ 3) (by rfl) (pa_cons (pe_ix (kIx (K := K) rIxT ix_tup) (pv 0) (pe_globI (by rfl) B.ENDS) (by intro _ _; rfl)) (pa_cons (pe_ix (kIx (K := K) rIxT ix_tup) (pv 1) (pe_globI (by rfl) B.ENDS) (by intro _ _; rfl)) (pa_cons (pv 2) pa_nil)))))
      (pss_one (ps_ret (pe_tup (pa_cons (pe_ix (kIx (K := K) rIxT ix_tup) (pv 0) (pe_globI (by rfl) B.SIGNS) (by intro _ _; rfl)) (pa_cons (pe_op op_mul (pe_ix (kIx (K := K) rIxT ix_tup) (pv 0) (pe_globI (by rfl) B.ROOMS) (by intro _ _; rfl)) (pv 2)) (pa_cons (pv 3) (pa_cons (pv 4) (pa_cons (pv 5) pa_nil)))))))))))))), ?_⟩
  refine ⟨_, rfl, _, rfl, v, s, pb, ps, pe, w, u, qb, qs, qe, rfl, hV, hU, fun hs => ?_, fun hs => qS hs⟩
  refine ⟨_, rfl, _, rfl, v, s, pb, ps, pe, w, u, qb, qs, qe, rfl, hV, hU, hn, fun hc => ?_, fun hc => qT hs hc⟩
  replace q := q hs hc
  obtain ⟨a, xb, xs, xe, rfl, h1, h2, h3, h4, h5, h6, h7⟩ := hV
  obtain ⟨b, yb, ys, ye, rfl, k1, k2, k3, k4, k5, k6, k7⟩ := hU
  refine ⟨_, rfl, _, _, _, _, rfl, rfl, k1, rfl, ?_⟩
  refine ⟨_, rfl, _, _, _, _, rfl, rfl, h1, rfl, _, rfl, _, _, _, _, rfl, rfl, k1, rfl, _, rfl, pb, qb, u.rooms, s.begins, u.begins, rfl, ⟨xb, h2, h5⟩, ⟨yb, k2, k5⟩, ls_.lb, lu.lb, hm, fun fa H1 g1 hfa wa => ?_⟩
  have t1 := Same.seqT g1 h1
  have u1 := Same.seqT g1 k1
  have m3 : StL K H1 ps s.steps := StL.mono g1 ⟨xs, h3, h6⟩
  have n3 : StL K H1 qs u.steps := StL.mono g1 ⟨ys, k3, k6⟩
  refine ⟨_, rfl, _, _, _, _, rfl, rfl, t1, rfl, _, rfl, _, _, _, _, rfl, rfl, u1, rfl, _, rfl, ps, qs, u.rooms, s.steps, u.steps, rfl, m3, n3, ls_.ls, lu.ls, hm, fun fb H2 g2 hfb wb => ?_⟩
  have g12 := g1.trans g2
  have t2 := Same.seqT g12 h1
  have u2 := Same.seqT g12 k1
  have m4 : MkL K H2 pe s.ends := MkL.mono g12 ⟨xe, h4, h7⟩
  have n4 : MkL K H2 qe u.ends := MkL.mono g12 ⟨ye, k4, k7⟩
  refine ⟨_, rfl, _, _, _, _, rfl, rfl, t2, rfl, _, rfl, _, _, _, _, rfl, rfl, u2, rfl, _, rfl, pe, qe, u.rooms, s.ends, u.ends, rfl, m4, n4, ls_.le, lu.le, hm, fun fc H3 g3 hfc wc => ?_⟩
  have g13 := g12.trans g3
  have t3 := Same.seqT g13 h1
  refine ⟨_, rfl, _, _, _, _, rfl, rfl, t3, rfl, _, rfl, _, _, _, _, rfl, rfl, t3, rfl, _, rfl, _, _, rfl, rfl, .inl ⟨by have := hn.1; omega, by have := hn.2; omega⟩, _, rfl, _, rfl, _, rfl, (by show 5 ≤ sizeLine; decide), fun v hv => ?_⟩
  have gv := same_new hv (.tup [V.str s.signs, V.int (s.rooms * u.rooms), V.ref fa, V.ref fb, V.ref fc])
  have ev := upd_same (H := H3) (a := v) (o := .tup [V.str s.signs, V.int (s.rooms * u.rooms), V.ref fa, V.ref fb, V.ref fc])
  dsimp only at hv ⊢
  generalize upd H3 v (.tup [V.str s.signs, V.int (s.rooms * u.rooms), V.ref fa, V.ref fb, V.ref fc]) = H4 at gv ev ⊢
  obtain ⟨za, ea, Pa⟩ := wa
  obtain ⟨zb, eb, Pb⟩ := wb
  obtain ⟨zc, ec, Pc⟩ := wc
  have ga := (g2.trans g3).trans gv
  have gb := g3.trans gv
  exact q _ _ fa fb fc (g13.trans gv) ⟨v, za, zb, zc, rfl, SqT.of ev, ga _ _ ea, gb _ _ eb, gv _ _ ec, mkH_v (paired_mono (fun _ _ => MkH.mono (Same.grow ga)) Pa), paired_mono (fun _ _ => StV.mono (Same.grow gb)) Pb, mkH_v (paired_mono (fun _ _ => MkH.mono (Same.grow gv)) Pc)⟩
    ⟨hfa, g1.free hfb, g12.free hfc, ne_of_none ea hfb, ne_of_none (g2 _ _ ea) hfc, ne_of_none eb hfc⟩ ⟨za, ga _ _ ea, paired_mono (fun _ _ => MkH.mono (Same.grow ga)) Pa⟩

theorem sc_law_cell_at : FnScope ["_law_script", "_law_k"] ["_law_script", "_law_k"] (defScope s_law_cell_at) := ⟨rfl, rfl, rfl, by decide +kernel, rfl, by decide +kernel, by decide +kernel⟩
theorem ok_law_cell_at (B : Bi mg) {c_OtherSigns c_TooMany : Addr} (XB : Xb K mg c_OtherSigns c_TooMany)  {f : Addr} {fd : FuncData} (F : Fun K "_law_cell_at" "_law_cell_at" s_law_cell_at f fd) : FnOk P w K mg base CX0 1 f fd ["_law_script", "_law_k"] (spCell K) := by
  refine F.ok sc_law_cell_at (fun vs H Q E h => ?_) (fun cdv A outer s H vs Q E hr h => ?_)
  · obtain ⟨a, ns, k, rfl, _⟩ := h; rfl
  obtain ⟨a, ns, k, rfl, hS, hk, q⟩ := h
  refine ⟨_, (pss_cons (ps_if (pt_cmpR op_lt (pv 1) (pe_callB (kLen (K := K)) (by rfl) B.len bt_len (pa_cons (pv 0) pa_nil)) (nomark _)) (pss_one (ps_ret (pe_ix (kIx (K := K) rIxL ix_list) (pv 0) (pv 1) (by intro _ _; rfl)))) pss_nil)
      (pss_one (ps_ret pe_int))), ?_⟩
  refine ⟨_, rfl, _, rfl, a, _, rfl, .inl hS, _, _, rfl, rfl, _, rfl, ?_⟩
  rw [List.length_map]
  refine iteDd (fun c => ?_) (fun c => ?_)
  · obtain ⟨v, h1, h2⟩ := at_some (xs := ns) hk c
    refine ⟨_, rfl, _, rfl, a, _, _, .int v, rfl, rfl, hS, ?_, ?_⟩
    · obtain ⟨j, rfl⟩ := Int.eq_ofNat_of_zero_le hk
      exact atI_nat (by rw [List.getElem?_map]; rw [Int.toNat_natCast] at h2; rw [h2]; rfl)
    · have e : cellAt ns k = v := by unfold cellAt; rw [if_pos c, h2]; rfl
      rw [← e]; exact q
  · have e : cellAt ns k = 0 := by unfold cellAt; rw [if_neg c]
    rw [e] at q
    exact q

theorem sc_law_mixed : FnScope ["_law_cell", "_law_k", "_law_number"] ["_law_cell", "_law_k"] (defScope s_law_mixed) := ⟨rfl, rfl, rfl, by decide +kernel, rfl, by decide +kernel, by decide +kernel⟩
theorem ok_law_mixed (B : Bi mg) {c_OtherSigns c_TooMany : Addr} (XB : Xb K mg c_OtherSigns c_TooMany)  {f : Addr} {fd : FuncData} (F : Fun K "_law_mixed" "_law_mixed" s_law_mixed f fd) : FnOk P w K mg base CX0 1 f fd ["_law_cell", "_law_k"] (spMixed) := by
  refine F.ok sc_law_mixed (fun vs H Q E h => ?_) (fun cdv A outer s H vs Q E hr h => ?_)
  · obtain ⟨c, k, rfl, _⟩ := h; rfl
  obtain ⟨c, k, rfl, q⟩ := h
  refine ⟨_, (pss_cons (ps_set (i := 2) sc_law_mixed.nd rfl (Or.inl rfl) (pe_abs (pe_op op_mod (pe_op op_add (pe_op op_add (pe_op op_mul (pe_op op_mod (pv 0) pe_int) pe_int) (pe_op op_mul (pv 1) pe_int)) pe_int) pe_int)))
      (pss_cons (ps_set (i := 2) sc_law_mixed.nd rfl (Or.inl rfl) (pe_abs (pe_op op_mod (pe_op op_mul (pv 2) (pv 2)) pe_int)))
      (pss_one (ps_ret (pe_op op_mod (pe_op op_mul (pv 2) (pv 2)) pe_int))))), ?_⟩
  refine ⟨fun v H' => H = H' ∧ isNum 0 2147483647 v, ⟨_, rfl, _, _, rfl, rfl, pz, _, _, rfl, rfl, .inr ⟨by decide, by decide⟩, _, rfl, _, _, rfl, rfl, .inr ⟨by decide, by decide⟩, _, _, rfl, rfl, _, _, rfl, rfl, _, _, rfl, rfl, pz, rfl, _, rfl, by omega, by omega⟩, ?_⟩
  rintro _ _ ⟨rfl, n, rfl, h0, h1⟩
  refine ⟨fun v H' => H = H' ∧ isNum 0 2147483647 v, ⟨_, rfl, _, rfl, _, _, rfl, rfl, .inl ⟨by omega, by omega⟩, _, _, rfl, rfl, pz, rfl, _, rfl, by omega, by omega⟩, ?_⟩
  rintro _ _ ⟨rfl, m, rfl, h2, h3⟩
  exact ⟨_, rfl, _, rfl, _, _, rfl, rfl, .inl ⟨by omega, by omega⟩, _, _, rfl, rfl, pz, q _ (Int.emod_nonneg _ (by decide)) (Int.emod_lt_of_pos _ (by decide))⟩

theorem sc_law_word : FnScope ["_law_rest_here", "_law_letters", "_law_size", "_law_word_here", "_law_k"] ["_law_rest_here"] (defScope s_law_word) := ⟨rfl, rfl, rfl, by decide +kernel, rfl, by decide +kernel, by decide +kernel⟩
theorem ok_law_word (B : Bi mg) {c_OtherSigns c_TooMany : Addr} (XB : Xb K mg c_OtherSigns c_TooMany)  {f : Addr} {fd : FuncData} (F : Fun K "_law_word" "_law_word" s_law_word f fd) : FnOk P w K mg base CX0 1 f fd ["_law_rest_here"] (spWord) := by
  refine F.ok sc_law_word (fun vs H Q E h => ?_) (fun cdv A outer s H vs Q E hr h => ?_)
  · obtain ⟨a, rfl, _⟩ := h; rfl
  obtain ⟨c, rfl, q⟩ := h
  refine ⟨_, (pss_cons (ps_set (i := 1) sc_law_word.nd rfl (Or.inl rfl) (pe_ix (kIx (K := K) rPick ix_pick) (pe_lst (pa_cons pe_str (pa_cons pe_str (pa_cons pe_str pa_nil)))) (pe_op op_mod (pv 0) pe_int) (by intro _ _; rfl)))
      (pss_cons (ps_set (i := 2) sc_law_word.nd rfl (Or.inl rfl) (pe_ix (kIx (K := K) rPick ix_pick) (pe_lst (pa_cons pe_int (pa_cons pe_int (pa_cons pe_int (pa_cons pe_int (pa_cons pe_int (pa_cons pe_int pa_nil))))))) (pe_op op_mod (pe_op op_fdiv (pv 0) pe_int) pe_int) (by intro _ _; rfl)))
      (pss_mid (ps_if (pt_cmpR op_eq (pe_op op_mod (pe_op op_fdiv (pv 0) pe_int) pe_int) pe_int (nomark _)) (pss_cons (ps_set (i := 2) sc_law_word.nd rfl (Or.inl rfl) (pe_op op_mod (pe_op op_fdiv (pv 0) pe_int) pe_int))
      (pss_one (ps_set (i := 0) sc_law_word.nd rfl (Or.inl rfl) (pe_op op_fdiv (pv 0) pe_int)))) pss_nil)
      (pss_cons (ps_set (i := 0) sc_law_word.nd rfl (Or.inl rfl) (pe_op op_fdiv (pv 0) pe_int))
      (pss_cons (ps_set (i := 3) sc_law_word.nd rfl (Or.inl rfl) pe_str)
      (pss_cons (ps_for PassesOwn.never (by rfl) (pi_range1 (by rfl) B.range (pa_cons (pv 2) pa_nil)) (pg_name (i := 4) sc_law_word.nd rfl (Or.inl rfl)) (pss_cons (ps_set (i := 3) sc_law_word.nd rfl (Or.inl rfl) (pe_op op_add_str (pv 3) (pe_ix ix_str (pv 1) (pe_op op_mod (pe_op op_add (pv 0) (pe_op op_mul (pv 4) (pv 4))) (pe_callB call_len_str (by rfl) B.len bt_len (pa_cons (pv 1) pa_nil))) (by intro _ _; rfl))))
      (pss_one (ps_set (i := 0) sc_law_word.nd rfl (Or.inl rfl) (pe_op op_fdiv (pv 0) (pe_callB call_len_str (by rfl) B.len bt_len (pa_cons (pv 1) pa_nil)))))))
      (pss_one (ps_ret (pv 3))))))))), ?_⟩
  refine ⟨szl (by simp), fun p hp => ⟨_, rfl, _, _, rfl, rfl, pz, p, _, _, rfl, rfl, SqL.of upd_same, by omega, (by show c % 3 < 3; omega), isLet, ?_, ?_⟩⟩
  · intro v hv
    simp only [List.mem_cons, List.not_mem_nil, or_false] at hv
    rcases hv with rfl | rfl | rfl <;> exact ⟨_, rfl, by decide +kernel, by decide +kernel, by decide +kernel⟩
  rintro _ ⟨z, rfl, hz1, hz2, hzl⟩
  have g1 := same_new hp (.lst [V.str "ab", V.str "a", V.str "abcdefghijklmnopqrstuvwxyz"])
  generalize upd H p (.lst [V.str "ab", V.str "a", V.str "abcdefghijklmnopqrstuvwxyz"]) = H1 at g1 ⊢
  refine ⟨szl (by simp), fun p2 hp2 => ⟨_, rfl, _, _, rfl, rfl, ⟨by decide, by decide⟩, _, _, rfl, rfl, pz, p2, _, _, rfl, rfl, SqL.of upd_same, by omega, (by show c / 3 % 6 < 6; omega), isNum 0 4, ?_, ?_⟩⟩
  · intro v hv
    simp only [List.mem_cons, List.not_mem_nil, or_false] at hv
    rcases hv with rfl | rfl | rfl | rfl | rfl | rfl <;> exact ⟨_, rfl, by decide, by decide⟩
  rintro _ ⟨n, rfl, hn0, hn4⟩
  have g2 := g1.trans (same_new hp2 (.lst [V.int 0, V.int 1, V.int 1, V.int 2, V.int 3, V.int 4]))
  generalize upd H1 p2 (.lst [V.int 0, V.int 1, V.int 1, V.int 2, V.int 3, V.int 4]) = H2 at g2 ⊢
  refine ⟨fun σ H' => H2 = H' ∧ ∃ n r : Int, 0 ≤ n ∧ n ≤ 40 ∧ σ = [some (.int r), some (.str z), some (.int n), none, none], ?_, ?_⟩
  · refine ⟨_, rfl, _, _, rfl, rfl, ⟨by decide, by decide⟩, _, _, rfl, rfl, pz, rfl, _, rfl, iteDd (fun _ => ?_) (fun _ => ⟨rfl, n, c, hn0, by omega, rfl⟩)⟩
    refine ⟨_, rfl, _, _, rfl, rfl, ⟨by decide, by decide⟩, _, _, rfl, rfl, pz, ?_⟩
    refine ⟨_, rfl, _, _, rfl, rfl, ⟨by decide, by decide⟩, ?_⟩
    exact ⟨rfl, c / 216 % 41, _, by omega, by omega, rfl⟩
  rintro σ H' ⟨rfl, n, r, h0, h1, rfl⟩
  refine ⟨_, rfl, _, _, rfl, rfl, ⟨by decide, by decide⟩, ?_⟩
  refine ⟨_, rfl, _, rfl, by omega, by omega, ?_⟩
  refine for_range (fun i σ H' => H2 = H' ∧ ∃ (r : Int) (x : Str) (y : Option V), x.length = i ∧ (∀ c ∈ cl x, 97 ≤ c ∧ c ≤ 122) ∧ σ = [some (.int r), some (.str z), some (.int n), some (.str x), y]) ⟨rfl, _, "", _, rfl, cl_nil, rfl⟩ ?_ ?_
  · rintro i σ H' hi ⟨rfl, r2, x, y, hx, hxl, rfl⟩
    have hzp : (0 : Int) < z.length ∧ (z.length : Int) < 1073741824 := by omega
    obtain ⟨c', hc, hm⟩ := at_mem (xs := cl z) (i := (r2 + (0 + (i : Int)) * (0 + (i : Int))) % (z.length : Int)) (Int.emod_nonneg _ (by omega)) (by rw [cl_length]; exact Int.emod_lt_of_pos _ hzp.1)
    refine ⟨_, rfl, _, rfl, _, rfl, _, rfl, _, rfl, _, _, rfl, rfl, .inl ⟨by omega, by omega⟩, _, _, rfl, rfl, _, rfl, z, rfl, szl (by omega), _, _, rfl, rfl, hzp.1, z, _, c', rfl, rfl, szl (by omega), hc, _, _, rfl, rfl, szl (by rw [hx, one_len]; omega), ?_⟩
    refine ⟨_, rfl, _, rfl, z, rfl, szl (by omega), _, _, rfl, rfl, hzp, ?_⟩
    refine ⟨rfl, _, _, _, ?_, ?_, rfl⟩
    · rw [len_app, hx]; rfl
    · intro c1 h1
      rw [cl_append] at h1
      rcases List.mem_append.mp h1 with h1 | h1
      · exact hxl c1 h1
      · rw [cl_one, List.mem_singleton] at h1
        subst h1; exact hzl c1 hm
  · rintro σ H' ⟨rfl, r2, x, y, hx, hxl, rfl⟩
    refine ⟨_, rfl, ?_⟩
    exact q x _ ⟨by omega, hxl⟩ g2

theorem sc_law_signs : FnScope ["_law_number", "_law_letters", "_law_many"] ["_law_number"] (defScope s_law_signs) := ⟨rfl, rfl, rfl, by decide +kernel, rfl, by decide +kernel, by decide +kernel⟩
theorem ok_law_signs (B : Bi mg) {c_OtherSigns c_TooMany : Addr} (XB : Xb K mg c_OtherSigns c_TooMany)  {f : Addr} {fd : FuncData} (F : Fun K "_law_signs" "_law_signs" s_law_signs f fd) : FnOk P w K mg base CX0 1 f fd ["_law_number"] (spSigns2) := by
  refine F.ok sc_law_signs (fun vs H Q E h => ?_) (fun cdv A outer s H vs Q E hr h => ?_)
  · obtain ⟨n, rfl, _⟩ := h; rfl
  obtain ⟨m, rfl, q⟩ := h
  refine ⟨_, (pss_cons (ps_set (i := 1) sc_law_signs.nd rfl (Or.inr rfl) pe_str)
      (pss_cons (ps_set (i := 2) sc_law_signs.nd rfl (Or.inl rfl) (pe_ix (kIx (K := K) rPick ix_pick) (pe_lst (pa_cons pe_int (pa_cons pe_int (pa_cons pe_int (pa_cons pe_int (pa_cons pe_int pa_nil)))))) (pe_op op_mod (pe_op op_fdiv (pv 0) pe_int) pe_int) (by intro _ _; rfl)))
      (pss_one (ps_ret (kPE (K := K) (fun k => tBM k _ _ _ _) (pe_bm PySem.F.plainAttrs_str PySem.F.slot_str_join PySem.F.type_str_join mt_join pe_str (pa_cons (pe_comp rfl (blk_mk (N' := ["_law_k", "_law_letters", "_law_number"]) (js := [none, some 1, some 0]) rfl (by decide +kernel) rfl (by decide +kernel) rfl rfl) (pi_range1 (by rfl) B.range (pa_cons (pv 2) pa_nil)) (fun _ _ _ _ _ => (pg_name (i := 0) (show List.Nodup (["_law_k", "_law_letters", "_law_number"] : List Str) by decide +kernel) rfl (Or.inl rfl))) (fun _ _ _ _ _ => pf_nil) (fun _ _ _ _ _ => (pe_ix ix_str (pv 1) (pe_op op_mod (pe_op op_add (pv 2) (pe_op op_mul pe_int (pv 0))) pe_int) (by intro _ _; rfl)))) pa_nil))))))), ?_⟩
  refine ⟨szl (by simp), fun p hp => ⟨_, rfl, _, _, rfl, rfl, ⟨by decide, by decide⟩, _, _, rfl, rfl, pz, p, _, _, rfl, rfl, SqL.of upd_same, by omega, (by show m / 26 % 5 < 5; omega), isNum 1 5, ?_, ?_⟩⟩
  · intro v hv
    simp only [List.mem_cons, List.not_mem_nil, or_false] at hv
    rcases hv with rfl | rfl | rfl | rfl | rfl <;> exact ⟨_, rfl, by decide, by decide⟩
  rintro _ ⟨n, rfl, hn1, hn5⟩
  have g1 := same_new hp (.lst [V.int 1, V.int 2, V.int 2, V.int 3, V.int 5])
  generalize upd H p (.lst [V.int 1, V.int 2, V.int 2, V.int 3, V.int 5]) = H1 at g1 ⊢
  obtain ⟨k, rfl⟩ := Int.eq_ofNat_of_zero_le (show 0 ≤ n by omega)
  refine ⟨rfl, _, rfl, _, rfl, by omega, by omega, ?_⟩
  refine comp_range (fun i ys τ H' => H1 = H' ∧ (∃ x, τ = [x, some (.str "abcdefghijklmnopqrstuvwxyz"), some (.int m)]) ∧ i ≤ 5 ∧ ys = ((List.range i).map (sgC m)).map fun c => V.str ⟨#[c]⟩) ⟨rfl, ⟨_, rfl⟩, Nat.zero_le _, rfl⟩ ?_ ?_
  · rintro i ys τ _ hi ⟨rfl, ⟨x, rfl⟩, h5, rfl⟩
    have hj0 := Int.emod_nonneg (m + 7 * (0 + (i : Int))) (show (26 : Int) ≠ 0 by decide)
    have hj1 := Int.emod_lt_of_pos (m + 7 * (0 + (i : Int))) (show (0 : Int) < 26 by decide)
    refine ⟨_, rfl, _, rfl, _, rfl, _, _, rfl, rfl, .inl ⟨by decide, by decide⟩, _, _, rfl, rfl, _, _, rfl, rfl, pz, _, _, _, rfl, rfl, szl (by rw [abc_len]; decide), abc_at hj0 hj1, szl' (by simp; omega), rfl, ⟨_, rfl⟩, by omega, ?_⟩
    rw [List.range_succ, List.map_append, List.map_append]
    unfold sgC
    rw [Int.zero_add]
    rfl
  rintro ys τ _ ⟨rfl, _, _, rfl⟩ p2 hp2
  have e : (((List.range (k : Int).toNat).map (sgC m)).map fun c => V.str ⟨#[c]⟩) = (((List.range (k : Int).toNat).map (sgC m)).map fun c => (⟨#[c]⟩ : Str)).map V.str := by rw [List.map_map, List.map_map, List.map_map]; rfl
  refine ⟨"", p2, ((List.range (k : Int).toNat).map (sgC m)).map fun c => (⟨#[c]⟩ : Str), rfl, rfl, SqL.of (by rw [← e]; exact upd_same), ?_, ?_⟩
  · have h1 : ∀ cs : List Nat, ((cs.map fun c => (⟨#[c]⟩ : Str)).map (·.length)).sum = cs.length := fun cs => by
      induction cs with
      | nil => rfl
      | cons c cs ih => rw [List.map_cons, List.map_cons, List.sum_cons, ih, List.length_cons, one_len]; omega
    rw [h1]
    have e0 : ("" : Str).length = 0 := by decide +kernel
    simp [e0]
    omega
  · rw [join_cat]
    exact q _ _ (sg_ok m (by omega) (by omega)) (g1.trans (same_new hp2 _))

theorem sc_law_rest : FnScope ["_law_script", "_law_k", "_law_salt", "_law_cell", "_law_big"] ["_law_script", "_law_k", "_law_salt"] (defScope s_law_rest) := ⟨rfl, rfl, rfl, by decide +kernel, rfl, by decide +kernel, by decide +kernel⟩
theorem ok_law_rest (B : Bi mg) {c_OtherSigns c_TooMany : Addr} (XB : Xb K mg c_OtherSigns c_TooMany) (C_law_cell_at : Cal P w K mg base "_law_cell_at" ["_law_script", "_law_k"] 1 (spCell K)) (C_law_mixed : Cal P w K mg base "_law_mixed" ["_law_cell", "_law_k"] 1 (spMixed)) {f : Addr} {fd : FuncData} (F : Fun K "_law_rest" "_law_rest" s_law_rest f fd) : FnOk P w K mg base CX0 2 f fd ["_law_script", "_law_k", "_law_salt"] (spRest K) := by
  refine F.ok sc_law_rest (fun vs H Q E h => ?_) (fun cdv A outer s H vs Q E hr h => ?_)
  · obtain ⟨a, ns, k, salt, rfl, _⟩ := h; rfl
  obtain ⟨a, ns, k, salt, rfl, hS, hk, s0, s1, q⟩ := h
  refine ⟨_, (pss_cons (ps_set (i := 3) sc_law_rest.nd rfl (Or.inl rfl) (pe_fn C_law_cell_at hr (by decide : 1 ≤ 1) (by rfl) (pa_cons (pv 0) (pa_cons (pv 1) pa_nil))))
      (pss_cons (ps_if (pt_cmpR op_eq (pe_op op_mod (pe_fn C_law_cell_at hr (by decide : 1 ≤ 1) (by rfl) (pa_cons (pv 0) (pa_cons pe_int pa_nil))) pe_int) pe_int (nomark _)) (pss_one (ps_ret (pe_op op_shr (pv 3) (pe_op op_mul (pe_op op_fdiv (pv 2) pe_int) pe_int)))) pss_nil)
      (pss_cons (ps_set (i := 4) sc_law_rest.nd rfl (Or.inl rfl) (pe_op op_add (pe_fn C_law_mixed hr (by decide : 1 ≤ 1) (by rfl) (pa_cons (pv 3) (pa_cons (pe_op op_add (pv 1) (pv 2)) pa_nil))) (pe_op op_mul (pe_fn C_law_mixed hr (by decide : 1 ≤ 1) (by rfl) (pa_cons (pv 3) (pa_cons (pe_op op_add (pe_op op_add (pv 1) (pv 2)) pe_int) pa_nil))) pe_int)))
      (pss_one (ps_ret (pe_op op_add (pv 4) (pe_op op_mul (pe_op op_mul (pe_fn C_law_mixed hr (by decide : 1 ≤ 1) (by rfl) (pa_cons (pv 3) (pa_cons (pe_op op_add (pe_op op_add (pv 1) (pv 2)) pe_int) pa_nil))) pe_int) pe_int))))))), ?_⟩
  refine ⟨_, rfl, _, rfl, a, ns, k, rfl, hS, hk, ?_⟩
  generalize cellAt ns k = c
  refine ⟨_, rfl, a, ns, 0, rfl, hS, (by decide), _, _, rfl, rfl, pz, rfl, _, rfl, ?_⟩
  refine iteDd (fun _ => ?_) (fun _ => ?_)
  · exact ⟨_, rfl, _, rfl, _, _, rfl, rfl, ⟨by decide, by decide⟩, _, _, rfl, rfl, .inr ⟨by decide, by decide⟩, _, _, rfl, rfl, (by show 0 ≤ salt / 2000 * 300; omega), q _⟩
  refine ⟨_, rfl, _, rfl, _, rfl, _, _, rfl, rfl, _, _, rfl, fun n1 _ _ => ?_⟩
  refine ⟨_, rfl, _, rfl, _, rfl, _, _, rfl, rfl, _, _, rfl, rfl, _, _, rfl, fun n2 _ _ => ⟨_, _, rfl, rfl, .inr ⟨by decide, by decide⟩, _, _, rfl, rfl, ?_⟩⟩
  exact ⟨_, rfl, _, rfl, _, rfl, _, rfl, _, _, rfl, rfl, _, _, rfl, rfl, _, _, rfl, fun n3 _ _ => ⟨_, _, rfl, rfl, .inr ⟨by decide, by decide⟩, _, _, rfl, rfl, .inr ⟨by decide, by decide⟩, _, _, rfl, rfl, q _⟩⟩

theorem sc_law_choices : FnScope ["_law_script", "_law_salt", "_law_most", "_law_signs_here", "_law_rooms", "_law_lists", "_law_k", "_law_rest_here", "_law_way", "_law_room", "_law_told", "_law_to"] ["_law_script", "_law_salt", "_law_most", "_law_signs_here"] (defScope s_law_choices) := ⟨rfl, rfl, rfl, by decide +kernel, rfl, by decide +kernel, by decide +kernel⟩
theorem ok_law_choices (B : Bi mg) {c_OtherSigns c_TooMany : Addr} (XB : Xb K mg c_OtherSigns c_TooMany) (C_law_rest : Cal P w K mg base "_law_rest" ["_law_script", "_law_k", "_law_salt"] 2 (spRest K)) (C_law_word : Cal P w K mg base "_law_word" ["_law_rest_here"] 1 (spWord)) {f : Addr} {fd : FuncData} (F : Fun K "_law_choices" "_law_choices" s_law_choices f fd) : FnOk P w K mg base CX0 3 f fd ["_law_script", "_law_salt", "_law_most", "_law_signs_here"] (spDraw4H K) := by
  refine F.ok sc_law_choices (fun vs H Q E h => ?_) (fun cdv A outer s H vs Q E hr h => ?_)
  · obtain ⟨a, ns, salt, most, g, rfl, _⟩ := h; rfl
  obtain ⟨a, ns, salt, most, g, rfl, hS, h63, s0, s1, m0, m1, hg, q⟩ := h
  refine ⟨_, (pss_cons (ps_set (i := 4) sc_law_choices.nd rfl (Or.inl rfl) (pe_abs (pe_op op_mod (pe_op op_fdiv (pe_fn C_law_rest hr (by decide : 2 ≤ 2) (by rfl) (pa_cons (pv 0) (pa_cons pe_int (pa_cons (pv 1) pa_nil)))) pe_int) (pe_op op_add (pv 2) pe_int))))
      (pss_cons (ps_set (i := 5) sc_law_choices.nd rfl (Or.inl rfl) (pe_lst (pa_cons (pe_lst pa_nil) (pa_cons (pe_lst pa_nil) (pa_cons (pe_lst pa_nil) pa_nil)))))
      (pss_cons (ps_for PassesOwn.never (by rfl) (pi_range2 (by rfl) B.range (pa_cons pe_int (pa_cons (pe_callB (call_min2 (by rfl)) (by rfl) B.min bt_min (pa_cons pe_int (pa_cons (pe_callB (kLen (K := K)) (by rfl) B.len bt_len (pa_cons (pv 0) pa_nil)) pa_nil))) pa_nil))) (pg_name (i := 6) sc_law_choices.nd rfl (Or.inl rfl)) (pss_cons (ps_set (i := 7) sc_law_choices.nd rfl (Or.inl rfl) (pe_abs (pe_fn C_law_rest hr (by decide : 2 ≤ 2) (by rfl) (pa_cons (pv 0) (pa_cons (pv 6) (pa_cons (pv 1) pa_nil))))))
      (pss_cons (ps_set (i := 8) sc_law_choices.nd rfl (Or.inl rfl) (pe_ix (kIx (K := K) rPick ix_pick) (pe_lst (pa_cons pe_int (pa_cons pe_int (pa_cons pe_int (pa_cons pe_int (pa_cons pe_int (pa_cons pe_int (pa_cons pe_int (pa_cons pe_int pa_nil))))))))) (pe_op op_mod (pv 7) pe_int) (by intro _ _; rfl)))
      (pss_cons (ps_set (i := 7) sc_law_choices.nd rfl (Or.inl rfl) (pe_abs (pe_op op_fdiv (pv 7) pe_int)))
      (pss_one (ps_if (pt_cmpR op_gt (pv 4) pe_int (nomark _)) (pss_cons (ps_set (i := 9) sc_law_choices.nd rfl (Or.inl rfl) (pe_abs (pe_op op_mod (pv 7) (pv 4))))
      (pss_cons (ps_set (i := 7) sc_law_choices.nd rfl (Or.inl rfl) (pe_abs (pe_op op_fdiv (pv 7) (pv 4))))
      (pss_cons (ps_set (i := 10) sc_law_choices.nd rfl (Or.inl rfl) (pe_tup (pa_cons (pv 9) (pa_cons (pe_fn C_law_word hr (by decide : 1 ≤ 2) (by rfl) (pa_cons (pv 7) pa_nil)) pa_nil))))
      (pss_mid (ps_if (pt_cmpR op_eq (pv 8) pe_int (nomark _)) (pss_cons (ps_set (i := 11) sc_law_choices.nd rfl (Or.inl rfl) (pe_abs (pe_op op_mod (pe_op op_fdiv (pv 7) (pe_callB call_len_str (by rfl) B.len bt_len (pa_cons (pv 3) pa_nil))) (pv 4))))
      (pss_one (ps_set (i := 10) sc_law_choices.nd rfl (Or.inl rfl) (pe_tup (pa_cons (pv 9) (pa_cons (pe_ix ix_str (pv 3) (pe_op op_mod (pv 7) (pe_callB call_len_str (by rfl) B.len bt_len (pa_cons (pv 3) pa_nil))) (by intro _ _; rfl)) (pa_cons (pe_fn C_law_word hr (by decide : 1 ≤ 2) (by rfl) (pa_cons (pe_op op_fdiv (pe_op op_fdiv (pv 7) (pe_callB call_len_str (by rfl) B.len bt_len (pa_cons (pv 3) pa_nil))) (pv 4)) pa_nil)) (pa_cons (pv 11) pa_nil)))))))) pss_nil)
      (pss_one (ps_if (pt_cmpR (kOp (K := K) (rInD · true) (op_notInD hr.units)) (pv 10) (pe_ix (kIx (K := K) rIxL ix_list) (pv 5) (pv 8) (by intro _ _; rfl)) rfl) (pss_one (ps_expr (kPE (K := K) (fun k => tBM k _ _ _ _) (pe_bm PySem.F.plainAttrs_list PySem.F.slot_list_append PySem.F.type_list_append mt_append (pe_ix (kIx (K := K) rIxL ix_list) (pv 5) (pv 8) (by intro _ _; rfl)) (pa_cons (pv 10) pa_nil))))) pss_nil)))))) pss_nil))))))
      (pss_one (ps_ret (pe_tup (pa_cons (pv 3) (pa_cons (pv 4) (pa_cons (pe_ix (kIx (K := K) rIxL ix_list) (pv 5) pe_int (by intro _ _; rfl)) (pa_cons (pe_ix (kIx (K := K) rIxL ix_list) (pv 5) pe_int (by intro _ _; rfl)) (pa_cons (pe_ix (kIx (K := K) rIxL ix_list) (pv 5) pe_int (by intro _ _; rfl)) pa_nil))))))))))), ?_⟩
  obtain ⟨hg1, hg2, hg3, hg4⟩ := hg
  have g1 : Same H H := Same.refl H
  refine ⟨fun v H' => H = H' ∧ isNum 0 14 v, ⟨_, rfl, _, rfl, a, ns, 0, salt, rfl, hS, by decide, s0, s1, fun n0 => ⟨_, _, rfl, rfl, ⟨by decide, by decide⟩, _, rfl, _, _, rfl, rfl, _, _, rfl, rfl, (by show 0 < most + 1; omega), rfl, _, rfl, Int.emod_nonneg _ (by omega), (by have := Int.emod_lt_of_pos (n0 / 2) (show 0 < most + 1 by omega); omega)⟩⟩, ?_⟩
  rintro _ _ ⟨rfl, r, rfl, hr0, hr1⟩
  refine ⟨szl (by simp), fun pb hpb => ?_⟩
  refine ⟨szl (by simp), fun ps hps => ?_⟩
  refine ⟨szl (by simp), fun pe hpe => ?_⟩
  refine ⟨szl (by simp), fun pl hpl => ?_⟩
  have hps' : H ps = none := (same_new hpb _).free hps
  have hpe' : upd H pb (.lst []) pe = none := (same_new hps _).free hpe
  have hpl' : upd (upd H pb (.lst [])) ps (.lst []) pl = none := (same_new hpe _).free hpl
  have hpl'' : upd H pb (.lst []) pl = none := (same_new hps _).free hpl'
  have AP : Apart H pb ps pe := ⟨g1.free hpb, g1.free hps', g1.free ((same_new hpb _).free hpe'), ne_of_none upd_same hps, ne_of_none upd_same hpe', ne_of_none upd_same hpe⟩
  have lb : pl ≠ pb := (ne_of_none upd_same hpl'').symm
  have lS : pl ≠ ps := (ne_of_none upd_same hpl').symm
  have le : pl ≠ pe := (ne_of_none upd_same hpl).symm
  have HI0 : HIh K H pb ps pe false g r 0 (upd (upd (upd (upd H pb (.lst [])) ps (.lst [])) pe (.lst [])) pl (.lst [.ref pb, .ref ps, .ref pe])) :=
    ⟨[], [], [], [], [], [], (((g1.trans (same_new hpb _)).trans (same_new hps _)).trans (same_new hpe _)).trans (same_new hpl _), by rw [upd_ne lb.symm, upd_ne AP.be, upd_ne AP.bs]; exact upd_same, by rw [upd_ne lS.symm, upd_ne AP.se]; exact upd_same, by rw [upd_ne le.symm]; exact upd_same, .nil, .nil, .nil,
      ⟨Nat.zero_le _, Nat.zero_le _, Nat.zero_le _, by simp, by simp, by simp, by simp, by simp, by simp, fun _ => Nat.zero_le _, fun _ => by simp, fun _ => by simp⟩⟩
  have el0 := upd_same (H := upd (upd (upd H pb (.lst [])) ps (.lst [])) pe (.lst [])) (a := pl) (o := .lst [.ref pb, .ref ps, .ref pe])
  generalize upd (upd (upd (upd H pb (.lst [])) ps (.lst [])) pe (.lst [])) pl (.lst [.ref pb, .ref ps, .ref pe]) = H3 at HI0 el0 ⊢
  have hS3 : SqL K H3 a (ns.map V.int) := by obtain ⟨_, _, _, _, _, _, z, _⟩ := HI0; exact z.seq hS
  refine ⟨_, rfl, a, _, rfl, .inl hS3, _, _, rfl, _, _, rfl, ⟨by decide, by decide, ?_, ?_⟩, ?_⟩
  · rw [List.length_map]
    show -(2 ^ 62 : Int) ≤ if (ns.length : Int) < 63 then (ns.length : Int) else 63
    split <;> omega
  · rw [List.length_map]
    show (if (ns.length : Int) < 63 then (ns.length : Int) else 63) < 2 ^ 62
    split <;> omega
  rw [List.length_map]
  have hturns : ((if (ns.length : Int) < 63 then (ns.length : Int) else 63) - 1).toNat ≤ 62 := by split <;> omega
  refine for_range (fun i σ H' => HIh K H pb ps pe false g r i H' ∧ H' pl = some (.lst [.ref pb, .ref ps, .ref pe]) ∧ ∃ x3 x7 x8 x9 x10 x11, σ = [some (.ref a), some (.int salt), some (.int most), some (.str g), some (.int r), some (.ref pl), x7, x3, x8, x9, x10, x11]) ⟨HI0, el0, _, _, _, _, _, _, rfl⟩ ?_ ?_
  · rintro i σ H4 hi ⟨hI, el, x3, x7, x8, x9, x10, x11, rfl⟩
    have hi62 : i < 62 := Nat.lt_of_lt_of_le hi hturns
    have hS4 : SqL K H4 a (ns.map V.int) := by obtain ⟨_, _, _, _, _, _, z, _⟩ := hI; exact z.seq hS
    refine ⟨fun v H' => H4 = H' ∧ ∃ n : Int, v = .int n, ⟨_, rfl, _, rfl, _, rfl, a, ns, _, salt, rfl, hS4, by omega, s0, s1, fun n => ⟨rfl, n, rfl⟩⟩, ?_⟩
    rintro _ _ ⟨rfl, n1, rfl⟩
    refine ⟨szl (by simp), fun p hp => ⟨_, rfl, _, _, rfl, rfl, pz, p, _, _, rfl, rfl, SqL.of upd_same, by omega, (by show n1 % 8 < 8; omega), isNum 0 2, ?_, ?_⟩⟩
    · intro v hv
      simp only [List.mem_cons, List.not_mem_nil, or_false] at hv
      rcases hv with rfl | rfl | rfl | rfl | rfl | rfl | rfl | rfl <;> exact ⟨_, rfl, by decide, by decide⟩
    rintro _ ⟨way, rfl, hw0, hw2⟩
    have gp := same_new hp (.lst [V.int 0, V.int 1, V.int 1, V.int 1, V.int 1, V.int 1, V.int 2, V.int 2])
    have hI := hI.mono gp (Nat.le_refl _)
    have el := gp _ _ el
    generalize upd H4 p (.lst [V.int 0, V.int 1, V.int 1, V.int 1, V.int 1, V.int 1, V.int 2, V.int 2]) = H5 at hI el ⊢
    refine ⟨fun v H' => H5 = H' ∧ ∃ n : Int, v = .int n, ⟨_, rfl, _, _, rfl, rfl, ⟨by decide, by decide⟩, rfl, _, rfl⟩, ?_⟩
    rintro _ _ ⟨rfl, n2, rfl⟩
    refine ⟨_, rfl, _, _, rfl, rfl, _, rfl, iteDd (fun hr => ?_) (fun _ => ⟨hI.mono (Same.refl _) (Nat.le_succ _), el, _, _, _, _, _, _, rfl⟩)⟩
    have hrr : 0 < r ∧ r < 1073741824 := ⟨hr, by omega⟩
    refine ⟨fun v H' => H5 = H' ∧ ∃ n : Int, v = .int n ∧ 0 ≤ n ∧ n < r, ⟨_, rfl, _, rfl, _, _, rfl, rfl, hr, rfl, _, rfl, Int.emod_nonneg _ (by omega), Int.emod_lt_of_pos _ hr⟩, ?_⟩
    rintro _ _ ⟨rfl, ro, rfl, ro0, ro1⟩
    refine ⟨fun v H' => H5 = H' ∧ ∃ n : Int, v = .int n, ⟨_, rfl, _, rfl, _, _, rfl, rfl, hrr, rfl, _, rfl⟩, ?_⟩
    rintro _ _ ⟨rfl, n3, rfl⟩
    refine ⟨_, rfl, _, rfl, n3, rfl, fun wd H6 hwd g6 => ⟨(by show 2 ≤ sizeLine; decide), fun t ht => ?_⟩⟩
    have gt := g6.trans (same_new ht (.tup [V.int ro, V.str wd]))
    have et := upd_same (H := H6) (a := t) (o := .tup [V.int ro, V.str wd])
    have hI := hI.mono gt (Nat.le_refl _)
    have el := gt _ _ el
    dsimp only at ht ⊢
    generalize upd H6 t (.tup [V.int ro, V.str wd]) = H7 at hI el et ⊢
    have hgl : (0 : Int) < g.length ∧ (g.length : Int) < 1073741824 := by omega
    refine ⟨fun σ' H' => ∃ t' x11, σ' = [some (.ref a), some (.int salt), some (.int most), some (.str g), some (.int r), some (.ref pl), some (.int (1 + (i : Int))), some (.int n3), some (.int way), some (.int ro), some (.ref t'), x11] ∧ HIh K H pb ps pe false g r i H' ∧ H' pl = some (.lst [.ref pb, .ref ps, .ref pe]) ∧
        ((¬ way = 1 ∧ ∃ wd, Wd wd ∧ H' t' = some (.tup [.int ro, .str wd])) ∨ (way = 1 ∧ ∃ sg wd to, sg ∈ cl g ∧ Wd wd ∧ 0 ≤ to ∧ to < r ∧ SqT K H' t' [.int ro, .str ⟨#[sg]⟩, .str wd, .int to])), ?_, ?_⟩
    · refine ⟨_, rfl, rfl, _, rfl, iteDd (fun c => ?_) (fun c => ⟨t, _, rfl, hI, el, .inl ⟨fun z => c (by rw [z]), wd, hwd, et⟩⟩)⟩
      have c : way = 1 := by injection c
      refine ⟨fun v H' => H7 = H' ∧ ∃ n : Int, v = .int n ∧ 0 ≤ n ∧ n < r, ⟨_, rfl, _, rfl, g, rfl, szl (by omega), _, _, rfl, rfl, hgl, _, rfl, _, _, rfl, rfl, hr, rfl, _, rfl, Int.emod_nonneg _ (by omega), Int.emod_lt_of_pos _ hr⟩, ?_⟩
      rintro _ _ ⟨rfl, to, rfl, to0, to1⟩
      obtain ⟨sg, hc, hm⟩ := at_mem (xs := cl g) (i := n3 % (g.length : Int)) (Int.emod_nonneg _ (by omega)) (by rw [cl_length]; exact Int.emod_lt_of_pos _ hgl.1)
      refine ⟨_, rfl, _, rfl, _, rfl, _, rfl, g, rfl, szl (by omega), _, _, rfl, rfl, hgl.1, g, _, sg, rfl, rfl, szl (by omega), hc, _, rfl, _, rfl, g, rfl, szl (by omega), _, _, rfl, rfl, hgl, _, rfl, _, _, rfl, rfl, hrr, _, rfl, fun wd2 H8 hwd2 g8 => ⟨_, rfl, (by show 4 ≤ sizeLine; decide), fun t2 ht2 => ?_⟩⟩
      have gt2 := g8.trans (same_new ht2 (.tup [V.int ro, V.str ⟨#[sg]⟩, V.str wd2, V.int to]))
      exact ⟨t2, _, rfl, hI.mono gt2 (Nat.le_refl _), gt2 _ _ el, .inr ⟨c, sg, wd2, to, hm, hwd2, to0, to1, SqT.of upd_same⟩⟩
    rintro _ H8 ⟨t', x11', rfl, hI, el, hcase⟩
    obtain ⟨B, S, E', xb, xs, xe, i1, i2, i3, i4, i5, i6, i7, i8⟩ := hI
    have stay : HIh K H pb ps pe false g r (i + 1) H8 := HIh.mono ⟨B, S, E', xb, xs, xe, i1, i2, i3, i4, i5, i6, i7, i8⟩ (Same.refl _) (Nat.le_succ _)
    have hw : way = 0 ∨ way = 1 ∨ way = 2 := by omega
    rcases hw with rfl | rfl | rfl
    · obtain ⟨_, wd, hwd, hT⟩ : ¬ (0 : Int) = 1 ∧ ∃ wd, Wd wd ∧ H8 t' = some (.tup [.int ro, .str wd]) := by
        rcases hcase with z | z
        · exact z
        · exact absurd z.1 (by decide)
      have hat : atI [V.ref pb, V.ref ps, V.ref pe] 0 = some (.ref pb) := rfl
      refine ⟨_, rfl, _, rfl, _, rfl, _, _, _, _, rfl, rfl, SqL.of el, hat, dMk (ro, wd), pb, xb, B.map dMk, MkV.rep ⟨t', rfl, SqT.of hT⟩, rfl, SqL.of i2, notIn_mk (m := (ro, wd)) (mkH_v i5), Nat.le_trans (deeps_map dMk 1 deep_dMk B) (by decide), _, rfl, iteB (fun z => ?_) (fun _ => ⟨stay, el, _, _, _, _, _, _, rfl⟩)⟩
      have z' : (!((B.map dMk).any fun e => eqD e (dMk (ro, wd)))) = true := z
      rw [any_mem dMk eqD_dMk] at z'
      have hlx : xb.length < sizeLine := by have := i5.length; have : B.length ≤ i := i8.lb; exact szl' (by omega)
      refine ⟨_, rfl, _, rfl, _, _, _, _, rfl, rfl, SqL.of el, hat, .inl ⟨rfl, _, SqL.of i2⟩, _, rfl, pb, xb, .ref t', rfl, rfl, i2, hlx, ?_, (upd_ne lb).trans el, _, _, _, _, _, _, rfl⟩
      exact HIh.addBegin AP i1 i2 i3 i4 i5 i6 i7 (i8.begin ro0 ro1 hwd (by simpa using z') (fun h => nomatch h)) ⟨t', rfl, hT⟩
    · obtain ⟨_, sg, wd, to, hsg, hwd, to0, to1, hT⟩ : (1 : Int) = 1 ∧ ∃ sg wd to, sg ∈ cl g ∧ Wd wd ∧ 0 ≤ to ∧ to < r ∧ SqT K H8 t' [.int ro, .str ⟨#[sg]⟩, .str wd, .int to] := by
        rcases hcase with z | z
        · exact absurd rfl z.1
        · exact z
      have hat : atI [V.ref pb, V.ref ps, V.ref pe] 1 = some (.ref ps) := rfl
      refine ⟨_, rfl, _, rfl, _, rfl, _, _, _, _, rfl, rfl, SqL.of el, hat, dSt (ro, ⟨#[sg]⟩, wd, to), ps, xs, S.map dSt, StV.rep ⟨t', rfl, hT⟩, rfl, SqL.of i3, reps_st i6, Nat.le_trans (deeps_map dSt 1 deep_dSt S) (by decide), _, rfl, iteB (fun z => ?_) (fun _ => ⟨stay, el, _, _, _, _, _, _, rfl⟩)⟩
      have z' : (!((S.map dSt).any fun e => eqD e (dSt (ro, ⟨#[sg]⟩, wd, to)))) = true := z
      rw [any_mem dSt eqD_dSt] at z'
      have hlx : xs.length < sizeLine := by have := i6.length; have : S.length ≤ i := i8.ls; exact szl' (by omega)
      refine ⟨_, rfl, _, rfl, _, _, _, _, rfl, rfl, SqL.of el, hat, .inl ⟨rfl, _, SqL.of i3⟩, _, rfl, ps, xs, .ref t', rfl, rfl, i3, hlx, ?_, (upd_ne lS).trans el, _, _, _, _, _, _, rfl⟩
      exact HIh.addStep AP i1 i2 i3 i4 i5 i6 i7 (i8.step ro0 ro1 ⟨sg, hsg, rfl⟩ hwd to0 to1 (by simpa using z') (fun h => nomatch h)) ⟨t', rfl, hT⟩
    · obtain ⟨_, wd, hwd, hT⟩ : ¬ (2 : Int) = 1 ∧ ∃ wd, Wd wd ∧ H8 t' = some (.tup [.int ro, .str wd]) := by
        rcases hcase with z | z
        · exact z
        · exact absurd z.1 (by decide)
      have hat : atI [V.ref pb, V.ref ps, V.ref pe] 2 = some (.ref pe) := rfl
      refine ⟨_, rfl, _, rfl, _, rfl, _, _, _, _, rfl, rfl, SqL.of el, hat, dMk (ro, wd), pe, xe, E'.map dMk, MkV.rep ⟨t', rfl, SqT.of hT⟩, rfl, SqL.of i4, notIn_mk (m := (ro, wd)) i7, Nat.le_trans (deeps_map dMk 1 deep_dMk E') (by decide), _, rfl, iteB (fun z => ?_) (fun _ => ⟨stay, el, _, _, _, _, _, _, rfl⟩)⟩
      have z' : (!((E'.map dMk).any fun e => eqD e (dMk (ro, wd)))) = true := z
      rw [any_mem dMk eqD_dMk] at z'
      have hlx : xe.length < sizeLine := by have := i7.length; have : E'.length ≤ i := i8.le; exact szl' (by omega)
      refine ⟨_, rfl, _, rfl, _, _, _, _, rfl, rfl, SqL.of el, hat, .inl ⟨rfl, _, SqL.of i4⟩, _, rfl, pe, xe, .ref t', rfl, rfl, i4, hlx, ?_, (upd_ne le).trans el, _, _, _, _, _, _, rfl⟩
      exact HIh.addEnd AP i1 i2 i3 i4 i5 i6 i7 (i8.end_ ro0 ro1 hwd (by simpa using z') (fun h => nomatch h)) ⟨t', rfl, SqT.of hT⟩
  rintro σ H4 ⟨hI, el, x3, x7, x8, x9, x10, x11, rfl⟩
  have hI : HIh K H pb ps pe false g r 62 H4 := hI.mono (Same.refl _) (by omega)
  obtain ⟨B, S, E', xb, xs, xe, i1, i2, i3, i4, i5, i6, i7, i8⟩ := hI
  refine ⟨_, rfl, _, rfl, _, rfl, _, _, _, _, rfl, rfl, SqL.of el, rfl, _, rfl, _, _, _, _, rfl, rfl, SqL.of el, rfl, _, rfl, _, _, _, _, rfl, rfl, SqL.of el, rfl, (by show 5 ≤ sizeLine; decide), fun v hv => ?_⟩
  have gv := same_new hv (.tup [V.str g, V.int r, V.ref pb, V.ref ps, V.ref pe])
  exact q _ _ ⟨g, r, B, S, E'⟩ pb ps pe ⟨i1.trans gv, ⟨v, xb, xs, xe, rfl, SqT.of upd_same, SqL.of (gv _ _ i2), SqL.of (gv _ _ i3), SqL.of (gv _ _ i4), mkH_v (paired_mono (fun _ _ => MkH.mono (Same.grow gv)) i5), paired_mono (fun _ _ => StV.mono (Same.grow gv)) i6, paired_mono (fun _ _ => MkV.mono (Same.grow gv)) i7⟩,
    i8, hr0, hr1, hg1, hg2, hg3, hg4⟩ rfl ⟨v, xb, xs, xe, rfl, SqT.of upd_same, gv _ _ i2, gv _ _ i3, gv _ _ i4, mkH_v (paired_mono (fun _ _ => MkH.mono (Same.grow gv)) i5), paired_mono (fun _ _ => StV.mono (Same.grow gv)) i6, paired_mono (fun _ _ => MkV.mono (Same.grow gv)) i7⟩ ⟨xb, gv _ _ i2, paired_mono (fun _ _ => MkH.mono (Same.grow gv)) i5⟩

theorem sc_law_text : FnScope ["_law_script", "_law_signs_here", "_law_most", "_law_rest_here", "_law_text_here", "_law_size", "_law_k"] ["_law_script", "_law_signs_here", "_law_most"] (defScope s_law_text) := ⟨rfl, rfl, rfl, by decide +kernel, rfl, by decide +kernel, by decide +kernel⟩
theorem ok_law_text (B : Bi mg) {c_OtherSigns c_TooMany : Addr} (XB : Xb K mg c_OtherSigns c_TooMany) (C_law_mixed : Cal P w K mg base "_law_mixed" ["_law_cell", "_law_k"] 1 (spMixed)) (C_law_cell_at : Cal P w K mg base "_law_cell_at" ["_law_script", "_law_k"] 1 (spCell K)) {f : Addr} {fd : FuncData} (F : Fun K "_law_text" "_law_text" s_law_text f fd) : FnOk P w K mg base CX0 2 f fd ["_law_script", "_law_signs_here", "_law_most"] (spText5 K) := by
  refine F.ok sc_law_text (fun vs H Q E h => ?_) (fun cdv A outer s H vs Q E hr h => ?_)
  · obtain ⟨a, ns, g, n, rfl, _⟩ := h; rfl
  obtain ⟨a, ns, g, n, rfl, hS, g1, g2, n0, n1, q⟩ := h
  refine ⟨_, (pss_cons (ps_set (i := 3) sc_law_text.nd rfl (Or.inl rfl) (pe_abs (pe_op op_add (pe_op op_mul (pe_fn C_law_mixed hr (by decide : 1 ≤ 1) (by rfl) (pa_cons (pe_fn C_law_cell_at hr (by decide : 1 ≤ 1) (by rfl) (pa_cons (pv 0) (pa_cons pe_int pa_nil))) (pa_cons pe_int pa_nil))) pe_int) (pe_fn C_law_mixed hr (by decide : 1 ≤ 1) (by rfl) (pa_cons (pe_fn C_law_cell_at hr (by decide : 1 ≤ 1) (by rfl) (pa_cons (pv 0) (pa_cons pe_int pa_nil))) (pa_cons pe_int pa_nil))))))
      (pss_mid (ps_if (pt_cmpR op_eq (pe_op op_mod (pe_fn C_law_cell_at hr (by decide : 1 ≤ 1) (by rfl) (pa_cons (pv 0) (pa_cons pe_int pa_nil))) pe_int) pe_int (nomark _)) (pss_one (ps_set (i := 3) sc_law_text.nd rfl (Or.inl rfl) (pe_abs (pe_op op_shr (pe_fn C_law_cell_at hr (by decide : 1 ≤ 1) (by rfl) (pa_cons (pv 0) (pa_cons pe_int pa_nil))) pe_int)))) pss_nil)
      (pss_cons (ps_set (i := 4) sc_law_text.nd rfl (Or.inl rfl) pe_str)
      (pss_cons (ps_set (i := 5) sc_law_text.nd rfl (Or.inl rfl) (pe_abs (pe_op op_mod (pv 3) (pe_op op_add (pv 2) pe_int))))
      (pss_cons (ps_set (i := 3) sc_law_text.nd rfl (Or.inl rfl) (pe_abs (pe_op op_fdiv (pv 3) (pe_op op_add (pv 2) pe_int))))
      (pss_cons (ps_for PassesOwn.never (by rfl) (pi_range1 (by rfl) B.range (pa_cons (pv 5) pa_nil)) (pg_name (i := 6) sc_law_text.nd rfl (Or.inl rfl)) (pss_cons (ps_set (i := 4) sc_law_text.nd rfl (Or.inl rfl) (pe_op op_add_str (pv 4) (pe_ix ix_str (pv 1) (pe_op op_mod (pv 3) (pe_callB call_len_str (by rfl) B.len bt_len (pa_cons (pv 1) pa_nil))) (by intro _ _; rfl))))
      (pss_one (ps_set (i := 3) sc_law_text.nd rfl (Or.inl rfl) (pe_abs (pe_op op_fdiv (pv 3) (pe_callB call_len_str (by rfl) B.len bt_len (pa_cons (pv 1) pa_nil))))))))
      (pss_one (ps_ret (pv 4))))))))), ?_⟩
  refine ⟨fun v H' => H = H' ∧ ∃ m : Int, v = .int m, ⟨_, rfl, a, ns, 1, rfl, hS, (by decide), _, _, rfl, fun n1 _ _ => ⟨_, _, rfl, rfl, .inr ⟨by decide, by decide⟩, _, rfl, a, ns, 1, rfl, hS, (by decide), _, _, rfl, fun n2 _ _ => ⟨_, _, rfl, rfl, rfl, _, rfl⟩⟩⟩, ?_⟩
  rintro _ _ ⟨rfl, r0, rfl⟩
  refine ⟨fun σ H' => H = H' ∧ ∃ m : Int, σ = [some (.ref a), some (.str g), some (.int n), some (.int m), none, none, none], ?_, ?_⟩
  · refine ⟨_, rfl, a, ns, 0, rfl, hS, (by decide), _, _, rfl, rfl, pz, rfl, _, rfl, iteDd (fun _ => ?_) (fun _ => ⟨rfl, _, rfl⟩)⟩
    refine ⟨fun v H' => H = H' ∧ ∃ m : Int, v = .int m, ⟨_, rfl, a, ns, 1, rfl, hS, (by decide), _, _, rfl, rfl, (by show (0 : Int) ≤ 900; decide), rfl, _, rfl⟩, ?_⟩
    rintro _ _ ⟨rfl, r1, rfl⟩
    exact ⟨rfl, _, rfl⟩
  rintro σ H' ⟨rfl, r1, rfl⟩
  refine ⟨fun v H' => H = H' ∧ isNum 0 50 v, ⟨_, rfl, _, rfl, _, _, rfl, rfl, _, _, rfl, rfl, (by show 0 < n + 1; omega), rfl, _, rfl, Int.emod_nonneg _ (by omega), ?_⟩, ?_⟩
  · have := Int.emod_lt_of_pos r1 (show 0 < n + 1 by omega)
    omega
  rintro _ _ ⟨rfl, m, rfl, m0, m1⟩
  refine ⟨fun v H' => H = H' ∧ ∃ m : Int, v = .int m, ⟨_, rfl, _, rfl, _, _, rfl, rfl, _, _, rfl, rfl, ⟨by show 0 < n + 1; omega, by show n + 1 < _; omega⟩, rfl, _, rfl⟩, ?_⟩
  rintro _ _ ⟨rfl, r2, rfl⟩
  refine ⟨_, rfl, _, rfl, by omega, by omega, ?_⟩
  refine for_range (fun i σ H' => H = H' ∧ ∃ (r : Int) (x : Str) (y : Option V), x.length = i ∧ σ = [some (.ref a), some (.str g), some (.int n), some (.int r), some (.str x), some (.int m), y]) ⟨rfl, _, "", _, rfl, rfl⟩ ?_ ?_
  · rintro i σ H' hi ⟨rfl, r3, x, y, hx, rfl⟩
    have hgl : (0 : Int) < g.length ∧ (g.length : Int) < 1073741824 := by omega
    obtain ⟨c', hc, hm⟩ := at_mem (xs := cl g) (i := r3 % (g.length : Int)) (Int.emod_nonneg _ (by omega)) (by rw [cl_length]; exact Int.emod_lt_of_pos _ hgl.1)
    refine ⟨_, rfl, _, rfl, _, rfl, _, rfl, g, rfl, szl (by omega), _, _, rfl, rfl, hgl.1, g, _, c', rfl, rfl, szl (by omega), hc, _, _, rfl, rfl, szl (by rw [hx, one_len]; omega), ?_⟩
    refine ⟨fun v H' => H = H' ∧ ∃ m : Int, v = .int m, ⟨_, rfl, _, rfl, g, rfl, szl (by omega), _, _, rfl, rfl, hgl, rfl, _, rfl⟩, ?_⟩
    rintro _ _ ⟨rfl, r4, rfl⟩
    exact ⟨rfl, _, _, _, by rw [len_app, hx]; rfl, rfl⟩
  rintro σ H' ⟨rfl, r3, x, y, hx, rfl⟩
  exact ⟨_, rfl, q x (by omega)⟩

theorem sc_law_led : FnScope ["_law_scribe", "_law_script", "_law_salt", "_law_most", "_law_signs_here", "_law_rooms", "_law_begins", "_law_steps", "_law_ends", "_law_number", "_law_text_here", "_law_room", "_law_k", "_law_on", "_law_step"] ["_law_scribe", "_law_script", "_law_salt", "_law_most"] (defScope s_law_led) := ⟨rfl, rfl, rfl, by decide +kernel, rfl, by decide +kernel, by decide +kernel⟩
theorem ok_law_led (B : Bi mg) {c_OtherSigns c_TooMany : Addr} (XB : Xb K mg c_OtherSigns c_TooMany) (C_law_mixed : Cal P w K mg base "_law_mixed" ["_law_cell", "_law_k"] 1 (spMixed)) (C_law_cell_at : Cal P w K mg base "_law_cell_at" ["_law_script", "_law_k"] 1 (spCell K)) {f : Addr} {fd : FuncData} (F : Fun K "_law_led" "_law_led" s_law_led f fd) : FnOk P w K mg base CX0 2 f fd ["_law_scribe", "_law_script", "_law_salt", "_law_most"] (spLed K) := by
  refine F.ok sc_law_led (fun vs H Q E h => ?_) (fun cdv A outer s H vs Q E hr h => ?_)
  · obtain ⟨v, s, pb, ps, pe, a, ns, k, n, rfl, _⟩ := h; rfl
  obtain ⟨v, s, pb, ps, pe, a, ns, k, n, rfl, hV, hL, hSh, hS, n0, n1, hone, q⟩ := h
  refine ⟨_, (pss_cons (ps_asg (pv 0) (kPG (K := K) (fun k => gTup k 5 _) (pg_tup (n := 5) (by rfl) (pgs_cons (pg_name (i := 4) sc_law_led.nd rfl (Or.inl rfl)) (pgs_cons (pg_name (i := 5) sc_law_led.nd rfl (Or.inl rfl)) (pgs_cons (pg_name (i := 6) sc_law_led.nd rfl (Or.inl rfl)) (pgs_cons (pg_name (i := 7) sc_law_led.nd rfl (Or.inl rfl)) (pgs_cons (pg_name (i := 8) sc_law_led.nd rfl (Or.inl rfl)) pgs_nil))))))))
      (pss_cons (ps_set (i := 9) sc_law_led.nd rfl (Or.inl rfl) (pe_fn C_law_mixed hr (by decide : 1 ≤ 1) (by rfl) (pa_cons (pe_fn C_law_cell_at hr (by decide : 1 ≤ 1) (by rfl) (pa_cons (pv 1) (pa_cons pe_int pa_nil))) (pa_cons (pv 2) pa_nil))))
      (pss_cons (ps_set (i := 10) sc_law_led.nd rfl (Or.inl rfl) pe_str)
      (pss_mid (ps_if (pt_cmpR (kOp (K := K) rNeD (op_neD hr.units)) (pv 6) (pe_lst pa_nil) (nomark _)) (pss_cons (ps_set (i := 11) sc_law_led.nd rfl (Or.inr rfl) (pe_ix (kIx (K := K) rIxT ix_tup) (pe_ix (kIx (K := K) rIxL ix_list) (pv 6) (pe_op op_mod (pe_op op_fdiv (pv 9) pe_int) (pe_callB (kLen (K := K)) (by rfl) B.len bt_len (pa_cons (pv 6) pa_nil))) (by intro _ _; rfl)) pe_int (by intro _ _; rfl)))
      (pss_one (ps_for PassesOwn.never (by rfl) (pi_range1 (by rfl) B.range (pa_cons (pe_op op_mod (pv 9) (pe_op op_add (pv 3) pe_int)) pa_nil)) (pg_name (i := 12) sc_law_led.nd rfl (Or.inl rfl)) (pss_cons (ps_compset (i := 13) sc_law_led.nd rfl (Or.inl rfl) (by rfl) (by rfl) (blk_mk (N' := ["_law_step", "_law_room"]) (js := [none, some 11]) rfl (by decide +kernel) rfl (by decide +kernel) rfl rfl) (kPI (K := K) (fun k => iList k _) (pi_list (pv 7))) (fun _ _ _ _ _ => (pg_name (i := 0) (show List.Nodup (["_law_step", "_law_room"] : List Str) by decide +kernel) rfl (Or.inl rfl))) (fun _ _ _ _ _ => (pf_one (pt_cmpR op_eq (pe_ix (kIx (K := K) rIxT ix_tup) (pv 0) pe_int (by intro _ _; rfl)) (pv 1) (nomark _)))) (fun _ _ _ _ _ => (pv 0)))
      (pss_one (ps_if (pt_cmpR (kOp (K := K) rNeD (op_neD hr.units)) (pv 13) (pe_lst pa_nil) (nomark _)) (pss_cons (ps_set (i := 14) sc_law_led.nd rfl (Or.inl rfl) (pe_ix (kIx (K := K) rIxL ix_list) (pv 13) (pe_op op_mod (pe_fn C_law_mixed hr (by decide : 1 ≤ 1) (by rfl) (pa_cons (pv 9) (pa_cons (pe_op op_add (pe_op op_add (pv 2) pe_int) (pv 12)) pa_nil))) (pe_callB (kLen (K := K)) (by rfl) B.len bt_len (pa_cons (pv 13) pa_nil))) (by intro _ _; rfl)))
      (pss_cons (ps_set (i := 10) sc_law_led.nd rfl (Or.inl rfl) (pe_op op_add_str (pv 10) (pe_ix (kIx (K := K) rIxT ix_tup) (pv 14) pe_int (by intro _ _; rfl))))
      (pss_one (ps_set (i := 11) sc_law_led.nd rfl (Or.inr rfl) (pe_ix (kIx (K := K) rIxT ix_tup) (pv 14) pe_int (by intro _ _; rfl)))))) pss_nil)))))) pss_nil)
      (pss_one (ps_ret (pv 10))))))), ?_⟩
  obtain ⟨lb, ls, le⟩ := hL
  obtain ⟨av, xb, xs, xe, rfl, h1, h2, h3, h4, h5, h6, h7⟩ := hV
  refine ⟨_, rfl, av, _, rfl, h1, rfl, _, _, rfl, _, _, rfl, _, _, rfl, _, _, rfl, _, _, rfl, rfl, ?_⟩
  refine ⟨_, rfl, a, ns, 2, rfl, hS, (by decide), _, rfl, _, _, rfl, fun nu nu0 _ => ?_⟩
  refine ⟨fun σ H' => Same H H' ∧ ∃ (x : Str) (x11 x12 x13 x14 : Option V), x.length ≤ 50 ∧ σ = [some (.ref av), some (.ref a), some (.int k), some (.int n), some (.str s.signs), some (.int s.rooms), some (.ref pb), some (.ref ps), some (.ref pe), some (.int nu), some (.str x), x11, x12, x13, x14], ?_, ?_⟩
  · refine ⟨_, rfl, szl (by simp), fun l hl => ?_⟩
    have gl := same_new hl (.lst [])
    refine ⟨.lst (s.begins.map dMk), .lst [], rep_lst (gl.seq h2) (notIn_mk (m := (0, "")) (paired_mono (fun _ _ => MkV.mono (Same.grow gl)) h5)), rep_lst (SqL.of upd_same) .nil, ?_, _, rfl, ?_⟩
    · have := deeps_map dMk 1 deep_dMk s.begins
      simp only [deep]; omega
    generalize upd H l (.lst []) = H2 at gl ⊢
    have hbl := h5.length
    cases hb : s.begins with
    | nil => exact iteF ⟨gl, "", _, _, _, _, Nat.zero_le _, rfl⟩
    | cons m0 M0 =>
    rw [hb, List.length_cons] at hbl
    refine iteT ?_
    have hxl : (0 : Int) < (xb.length : Int) := by omega
    obtain ⟨c, hc, hm⟩ := at_mem (xs := xb) (i := nu / 64 % (xb.length : Int)) (Int.emod_nonneg _ (by omega)) (Int.emod_lt_of_pos _ hxl)
    obtain ⟨j, hj⟩ := List.getElem?_of_mem hm
    obtain ⟨m, _, b, rfl, hb1⟩ := paired_get h5 hj
    refine ⟨_, rfl, _, rfl, _, _, rfl, rfl, ⟨by decide, by decide⟩, _, rfl, pb, xb, rfl, .inl (gl.seq h2), _, _, rfl, rfl, hxl, pb, xb, _, _, rfl, rfl, gl.seq h2, hc, b, _, _, _, rfl, rfl, Same.seqT gl hb1, rfl, ?_⟩
    have t1 := Int.emod_lt_of_pos nu (show 0 < n + 1 by omega)
    have t0 := Int.emod_nonneg nu (show n + 1 ≠ 0 by omega)
    refine ⟨_, rfl, _, rfl, _, _, rfl, rfl, _, _, rfl, rfl, (by show 0 < n + 1; omega), _, rfl, by omega, by omega, ?_⟩
    refine for_range (fun i σ H' => Same H H' ∧ ∃ (x : Str) (r : Int) (x12 x13 x14 : Option V), x.length ≤ i ∧ σ = [some (.ref av), some (.ref a), some (.int k), some (.int n), some (.str s.signs), some (.int s.rooms), some (.ref pb), some (.ref ps), some (.ref pe), some (.int nu), some (.str x), some (.int r), x12, x13, x14]) ⟨gl, "", _, _, _, _, Nat.zero_le _, rfl⟩ ?_ ?_
    · rintro i σ H3 hi ⟨g3, x, r, x12, x13, x14, hx, rfl⟩
      have hi50 : i < 51 := by omega
      have h33 := g3.seq h3
      refine ⟨_, rfl, ps, rfl, ⟨xs, h33⟩, ?_⟩
      refine comp_list (xs := xs) (fun i ys τ H' => H3 = H' ∧ (∃ x, τ = [x, some (.int r)]) ∧ i ≤ xs.length ∧ ys.length ≤ i ∧ ∃ L, (∀ t ∈ L, t ∈ s.steps) ∧ Paired (StV K H3) L ys) ⟨rfl, ⟨_, rfl⟩, Nat.zero_le _, Nat.zero_le _, [], (fun t ht => nomatch ht), .nil⟩ (fun i ys τ H' z => z.1 ▸ h33) ?_ ?_
      · rintro i2 y ys τ _ hy ⟨rfl, ⟨x0, rfl⟩, hi2, hyl, L, hL1, hL2⟩
        obtain ⟨t, ht, b2, rfl, hb2⟩ := paired_get h6 hy
        have hil : i2 < xs.length := (List.getElem?_eq_some_iff.mp hy).1
        have hsl := h6.length
        have hb23 := Same.seqT g3 hb2
        refine ⟨_, rfl, _, _, _, _, rfl, rfl, hb23, rfl, _, rfl, rfl, _, rfl, iteDd (fun _ => ?_) (fun _ => ⟨rfl, ⟨_, rfl⟩, hil, by omega, L, hL1, hL2⟩)⟩
        refine ⟨_, rfl, szl' (by omega), rfl, ⟨_, rfl⟩, hil, by rw [List.length_append, List.length_singleton]; omega, L ++ [t], fun t' ht' => ?_, paired_append hL2 (.cons ⟨b2, rfl, hb23⟩ .nil)⟩
        rcases List.mem_append.mp ht' with z | z
        · exact hL1 t' z
        · rw [List.mem_singleton.mp z]; exact List.mem_of_getElem? ht
      rintro zs τ _ ⟨rfl, _, _, hzl, L, hL1, hL2⟩ l0 hl0
      have g0 := same_new hl0 (.lst zs)
      have e0 := upd_same (H := H3) (a := l0) (o := .lst zs)
      have hL2 := paired_mono (fun _ _ => StV.mono (Same.grow g0)) hL2
      generalize upd H3 l0 (.lst zs) = H4 at g0 e0 hL2 ⊢
      refine ⟨_, rfl, szl (by simp), fun l2 hl2 => ?_⟩
      have gl2 := same_new hl2 (.lst [])
      have hL2 := paired_mono (fun _ _ => StV.mono (Same.grow gl2)) hL2
      have e1 := gl2 _ _ e0
      refine ⟨.lst (L.map dSt), .lst [], rep_lst (SqL.of e1) (reps_st hL2), rep_lst (SqL.of upd_same) .nil, ?_, _, rfl, ?_⟩
      · have := deeps_map dSt 1 deep_dSt L
        simp only [deep]; omega
      have g5 := (g3.trans g0).trans gl2
      generalize upd H4 l2 (.lst []) = H5 at g5 e1 hL2 ⊢
      have hzL := hL2.length
      cases hLL : L with
      | nil => exact iteF ⟨g5, x, r, _, _, _, by omega, rfl⟩
      | cons t00 L0 =>
      rw [hLL, List.length_cons] at hzL
      refine iteT ?_
      have hzp : (0 : Int) < (zs.length : Int) := by omega
      refine ⟨_, rfl, _, rfl, _, rfl, _, _, rfl, rfl, _, rfl, _, _, rfl, rfl, _, _, rfl, fun mx _ _ => ?_⟩
      obtain ⟨c2, hc2, hm2⟩ := at_mem (xs := zs) (i := mx % (zs.length : Int)) (Int.emod_nonneg _ (by omega)) (Int.emod_lt_of_pos _ hzp)
      obtain ⟨j2, hj2⟩ := List.getElem?_of_mem hm2
      obtain ⟨t, ht, b2, rfl, hb2⟩ := paired_get hL2 hj2
      have htw := hone t (hL1 t (List.mem_of_getElem? ht))
      refine ⟨_, rfl, l0, zs, rfl, .inl (SqL.of e1), _, _, rfl, rfl, hzp, l0, zs, _, _, rfl, rfl, SqL.of e1, hc2, ?_⟩
      refine ⟨_, rfl, _, rfl, b2, _, _, _, rfl, rfl, hb2, rfl, _, _, rfl, rfl, szl (by omega), ?_⟩
      refine ⟨_, rfl, b2, _, _, _, rfl, rfl, hb2, rfl, ?_⟩
      exact ⟨g5, _, _, _, _, _, by rw [len_app]; omega, rfl⟩
    rintro σ H3 ⟨g3, x, r, x12, x13, x14, hx, rfl⟩
    exact ⟨g3, x, _, _, _, _, by omega, rfl⟩
  rintro σ H' ⟨g2, x, x11, x12, x13, x14, hx, rfl⟩
  exact ⟨_, rfl, q x _ hx g2⟩

theorem sc_law_words : FnScope ["_law_scribe", "_law_text_here", "_law_signs_here", "_law_rooms", "_law_begins", "_law_steps", "_law_ends", "_law_pairs", "_law_pair", "_law_sign", "_law_more", "_law_room", "_law_word_here", "_law_step", "_law_words_here", "_law_last", "_law_tail"] ["_law_scribe", "_law_text_here"] (defScope s_law_words) := ⟨rfl, rfl, rfl, by decide +kernel, rfl, by decide +kernel, by decide +kernel⟩
theorem ok_law_words (B : Bi mg) {c_OtherSigns c_TooMany : Addr} (XB : Xb K mg c_OtherSigns c_TooMany)  {f : Addr} {fd : FuncData} (F : Fun K "_law_words" "_law_words" s_law_words f fd) : FnOk P w K mg base CX0 1 f fd ["_law_scribe", "_law_text_here"] (spWords K) := by
  refine F.ok sc_law_words (fun vs H Q E h => ?_) (fun cdv A outer s H vs Q E hr h => ?_)
  · obtain ⟨v, s, pb, ps, pe, x, rfl, _⟩ := h; rfl
  obtain ⟨v, s, pb, ps, pe, x, rfl, hV, hB, hL, hSh, hx, q, hN⟩ := h
  refine ⟨_, (pss_cons (ps_asg (pv 0) (kPG (K := K) (fun k => gTup k 5 _) (pg_tup (n := 5) (by rfl) (pgs_cons (pg_name (i := 2) sc_law_words.nd rfl (Or.inl rfl)) (pgs_cons (pg_name (i := 3) sc_law_words.nd rfl (Or.inl rfl)) (pgs_cons (pg_name (i := 4) sc_law_words.nd rfl (Or.inl rfl)) (pgs_cons (pg_name (i := 5) sc_law_words.nd rfl (Or.inl rfl)) (pgs_cons (pg_name (i := 6) sc_law_words.nd rfl (Or.inl rfl)) pgs_nil))))))))
      (pss_cons (ps_set (i := 7) sc_law_words.nd rfl (Or.inl rfl) pe_dnewT)
      (pss_cons (ps_for PassesOwn.never (by rfl) (kPI (K := K) (fun k => iList k _) (pi_list (pv 4))) (pg_name (i := 8) sc_law_words.nd rfl (Or.inl rfl)) (pss_one (ps_dput (hu_of hr) (pv 7) (pv 8) pe_bl rfl)))
      (pss_cons (ps_for PassesOwn.never (by rfl) (pi_str (pv 1)) (pg_name (i := 9) sc_law_words.nd rfl (Or.inl rfl)) (pss_cons (ps_set (i := 10) sc_law_words.nd rfl (Or.inl rfl) pe_dnewT)
      (pss_cons (ps_for PassesOwn.never (by rfl) (pi_tkeys (pv 7)) (kPG (K := K) (fun k => gTup k 2 _) (pg_tup (n := 2) (by rfl) (pgs_cons (pg_name (i := 11) sc_law_words.nd rfl (Or.inl rfl)) (pgs_cons (pg_name (i := 12) sc_law_words.nd rfl (Or.inl rfl)) pgs_nil)))) (pss_one (ps_for PassesOwn.never (by rfl) (kPI (K := K) (fun k => iList k _) (pi_list (pv 5))) (pg_name (i := 13) sc_law_words.nd rfl (Or.inl rfl)) (pss_one (ps_if (PW.pt (pw_and (pt_cmpR op_eq (pe_ix (kIx (K := K) rIxT ix_tup) (pv 13) pe_int (by intro _ _; rfl)) (pv 11) (nomark _)) (pw_and1 (pt_cmpR op_eq (pe_ix (kIx (K := K) rIxT ix_tup) (pv 13) pe_int (by intro _ _; rfl)) (pv 9) (nomark _))))) (pss_one (ps_dput (hu_of hr) (pv 10) (pe_tup (pa_cons (pe_ix (kIx (K := K) rIxT ix_tup) (pv 13) pe_int (by intro _ _; rfl)) (pa_cons (pe_op op_add_str (pv 12) (pe_ix (kIx (K := K) rIxT ix_tup) (pv 13) pe_int (by intro _ _; rfl))) pa_nil))) pe_bl rfl)) pss_nil)))))
      (pss_cons (ps_if (pt_cmpR op_gt (pe_callB call_len_d (by rfl) B.len bt_len (pa_cons (pv 10) pa_nil)) pe_int (nomark _)) (pss_one (ps_ret pe_non)) pss_nil)
      (pss_one (ps_set (i := 7) sc_law_words.nd rfl (Or.inl rfl) (pv 10)))))))
      (pss_cons (ps_set (i := 14) sc_law_words.nd rfl (Or.inl rfl) pe_dnewK)
      (pss_cons (ps_for PassesOwn.never (by rfl) (pi_tkeys (pv 7)) (kPG (K := K) (fun k => gTup k 2 _) (pg_tup (n := 2) (by rfl) (pgs_cons (pg_name (i := 11) sc_law_words.nd rfl (Or.inl rfl)) (pgs_cons (pg_name (i := 12) sc_law_words.nd rfl (Or.inl rfl)) pgs_nil)))) (pss_one (ps_for PassesOwn.never (by rfl) (kPI (K := K) (fun k => iList k _) (pi_list (pv 6))) (kPG (K := K) (fun k => gTup k 2 _) (pg_tup (n := 2) (by rfl) (pgs_cons (pg_name (i := 15) sc_law_words.nd rfl (Or.inl rfl)) (pgs_cons (pg_name (i := 16) sc_law_words.nd rfl (Or.inl rfl)) pgs_nil)))) (pss_one (ps_if (pt_cmpR op_eq (pv 15) (pv 11) (nomark _)) (pss_one (ps_dput (hu_of hr) (pv 14) (pe_op op_add_str (pv 12) (pv 16)) pe_bl rfl)) pss_nil)))))
      (pss_one (ps_ret (pe_callB (call_sorted_t (by rfl)) (by rfl) B.sorted bt_sorted (pa_cons (pv 14) pa_nil)))))))))), ?_⟩
  obtain ⟨lb, ls, le⟩ := hL
  obtain ⟨a, xb, xs, xe, rfl, h1, _, h3, h4, _, h6, h7⟩ := hV
  obtain ⟨xb, h2, h5⟩ := hB
  have wT : ∀ t ∈ s.steps, t.2.2.1.length ≤ 100 := fun t ht => (hSh.2.1 t ht).2
  have hxl : (cl x).length = x.length := cl_length x
  have lbx := h5.length
  have lsx := h6.length
  have lex := h7.length
  refine ⟨_, rfl, a, _, rfl, h1, rfl, _, _, rfl, _, _, rfl, _, _, rfl, _, _, rfl, _, _, rfl, rfl, ?_⟩
  refine fun d0 hd0 => ?_
  have g0 := same_new hd0 (.dT [])
  have e0 := upd_same (H := H) (a := d0) (o := .dT [])
  generalize upd H d0 (.dT []) = H0 at g0 e0 ⊢
  refine ⟨_, rfl, pb, rfl, ⟨xb, SqL.of (g0 _ _ h2)⟩, ?_⟩
  refine for_list (xs := xb) (fun i σ H' => Same H H' ∧ i ≤ xb.length ∧ (∃ x8, σ = [some (.ref a), some (.str x), some (.str s.signs), some (.int s.rooms), some (.ref pb), some (.ref ps), some (.ref pe), some (.ref d0), x8, none, none, none, none, none, none, none, none]) ∧ ∃ kvs, H' d0 = some (.dT kvs) ∧ kvs.map (·.1) = (onceM (s.begins.take i)).map pKey)
    ⟨g0, Nat.zero_le _, ⟨_, rfl⟩, [], e0, rfl⟩ (fun i σ H' _ z => SqL.of (z.1 _ _ h2)) ?_ ?_
  · rintro i y σ H1 hy ⟨g1, hi, ⟨x8, rfl⟩, kvs, hkd, hkk⟩
    obtain ⟨m, hm, b, rfl, hb⟩ := paired_get h5 hy
    have hil : i < xb.length := (List.getElem?_eq_some_iff.mp hy).1
    have hb1 : H1 b = some (.tup ((pKey m).map kV)) := g1 _ _ hb
    have hkl : kvs.length ≤ i := by
      have e1 := congrArg List.length hkk
      rw [List.length_map, List.length_map] at e1
      have := once_len (s.begins.take i)
      rw [List.length_take] at this; omega
    refine ⟨_, rfl, _, rfl, d0, _, rfl, DPut.t (v := .bl true) hkd hb1 (szl' (by omega)), ?_⟩
    refine ⟨same_updN g1 hd0, hil, ⟨_, rfl⟩, _, upd_same, ?_⟩
    rw [put_keys, hkk, take_get hm, once_snoc, add_map pKey_inj]
  rintro σ H1 ⟨g1, _, ⟨x8, rfl⟩, kvs, hkd, hkk⟩
  rw [← lbx, List.take_length] at hkk
  refine ⟨_, rfl, _, rfl, ?_⟩
  refine for_str (fun i σ H' => i ≤ x.length ∧ Same H H' ∧ ∃ P d x9 x10 x11 x12 x13, rwM s ((cl x).take i) = some P ∧ H d = none ∧ (∃ kvs, H' d = some (.dT kvs) ∧ kvs.map (·.1) = P.map pKey) ∧ P.length ≤ 999 ∧ (∀ m ∈ P, m.2.length ≤ 100 * (i + 1)) ∧ σ = [some (.ref a), some (.str x), some (.str s.signs), some (.int s.rooms), some (.ref pb), some (.ref ps), some (.ref pe), some (.ref d), x8, x9, x10, x11, x12, x13, none, none, none])
    ⟨Nat.zero_le _, g1, onceM s.begins, d0, none, none, none, none, none, rfl, hd0, ⟨kvs, hkd, hkk⟩, Nat.le_trans (once_len _) lb, fun m hm => by have := hSh.1 m (once_mem hm); omega, rfl⟩ ?_ ?_
  · rintro i c σ H2 hc ⟨hi, g2, Pm, d, x9, x10, x11, x12, x13, hpm, hd, ⟨kvs, hkd, hkk⟩, lP, wP, rfl⟩
    have hil : i < x.length := by rw [← hxl]; exact (List.getElem?_eq_some_iff.mp hc).1
    refine fun d2 hd2 => ?_
    have gd := same_new hd2 (.dT [])
    have e2 := upd_same (H := H2) (a := d2) (o := .dT [])
    have hd20 : H d2 = none := g2.free hd2
    have ndd : d ≠ d2 := ne_of_none hkd hd2
    have hkd := gd _ _ hkd
    have g3 := g2.trans gd
    generalize upd H2 d2 (.dT []) = H3 at e2 hkd g3 ⊢
    refine ⟨_, rfl, d, kvs, rfl, hkd, fun o => ?_⟩
    have hkl : kvs.length = Pm.length := by
      have e1 := congrArg List.length hkk
      rw [List.length_map, List.length_map] at e1; exact e1
    have big : ∀ (i j : Nat) (m : Mk) (kv : List (List Key × V)), kv.map (·.1) = (onceM ((Pm.take i).flatMap (onM s.steps c) ++ onJ s.steps c m j)).map pKey → kv.length < sizeLine := fun i j m kv hk => by
      have e1 := congrArg List.length hk
      rw [List.length_map, List.length_map] at e1
      have e2 := once_len ((Pm.take i).flatMap (onM s.steps c) ++ onJ s.steps c m j)
      have e3 := flat_len (fun m => Nat.le_trans (on_len s.steps c m) ls) (Pm.take i)
      have e4 := on_len (s.steps.take j) c m
      rw [List.length_take] at e4 e3
      have e5 : 9999 * min i Pm.length ≤ 9999 * 999 := Nat.mul_le_mul_left _ (by omega)
      rw [List.length_append] at e2
      unfold onJ at e2 e1
      rw [sizeLine_eq]; omega
    refine for_tkeys (kvs := kvs) (fun i' σ H' => Same H H' ∧ i' ≤ kvs.length ∧ H' d = some (.frz o (.dT kvs)) ∧ (∃ x11 x12 x13, σ = [some (.ref a), some (.str x), some (.str s.signs), some (.int s.rooms), some (.ref pb), some (.ref ps), some (.ref pe), some (.ref d), x8, some (.str ⟨#[c]⟩), some (.ref d2), x11, x12, x13, none, none, none]) ∧ ∃ kv2, H' d2 = some (.dT kv2) ∧ kv2.map (·.1) = (onceM ((Pm.take i').flatMap (onM s.steps c))).map pKey)
      ⟨same_updN g3 hd, Nat.zero_le _, upd_same, ⟨_, _, _, rfl⟩, [], by rw [upd_ne ndd.symm]; exact e2, rfl⟩ (fun i σ H' _ z => z.2.2.1) ?_ ?_
    · rintro i2 k2 y2 b σ H5 hk ⟨g5, hi2, hfz, ⟨x11, x12, x13, rfl⟩, kv2, hk2, hkk2⟩ hb
      have hil2 : i2 < kvs.length := (List.getElem?_eq_some_iff.mp hk).1
      obtain ⟨m, hm, rfl⟩ : ∃ m, Pm[i2]? = some m ∧ k2 = pKey m := by
        have e1 := congrArg (fun l => l[i2]?) hkk
        simp only [List.getElem?_map, hk, Option.map_some] at e1
        cases hp : Pm[i2]? with
        | none => rw [hp] at e1; cases e1
        | some m => rw [hp] at e1; injection e1 with e1; exact ⟨m, rfl, e1⟩
      have wm := wP m (List.mem_of_getElem? hm)
      refine ⟨b, _, rfl, SqT.of hb, rfl, _, _, rfl, _, _, rfl, rfl, ?_⟩
      refine ⟨_, rfl, ps, rfl, ⟨xs, g5.seq h3⟩, ?_⟩
      refine for_list (xs := xs) (fun j σ H' => Same H H' ∧ j ≤ xs.length ∧ H' d = some (.frz o (.dT kvs)) ∧ (∃ x13, σ = [some (.ref a), some (.str x), some (.str s.signs), some (.int s.rooms), some (.ref pb), some (.ref ps), some (.ref pe), some (.ref d), x8, some (.str ⟨#[c]⟩), some (.ref d2), some (.int m.1), some (.str m.2), x13, none, none, none]) ∧ ∃ kv2, H' d2 = some (.dT kv2) ∧ kv2.map (·.1) = (onceM ((Pm.take i2).flatMap (onM s.steps c) ++ onJ s.steps c m j)).map pKey)
        ⟨g5, Nat.zero_le _, hfz, ⟨_, rfl⟩, kv2, hk2, by rw [show onJ s.steps c m 0 = [] from rfl, List.append_nil]; exact hkk2⟩ (fun j σ H' _ z => z.1.seq h3) ?_ ?_
      · rintro j y σ H6 hy ⟨g6, hj, hfz6, ⟨x13, rfl⟩, kv6, hk6, hkk6⟩
        obtain ⟨t, ht, bt, rfl, hbt⟩ := paired_get h6 hy
        have hjl : j < xs.length := (List.getElem?_eq_some_iff.mp hy).1
        have hbt6 := Same.seqT g6 hbt
        have tw := wT t (List.mem_of_getElem? ht)
        have no : ¬ (t.1 = m.1 ∧ t.2.1 = ⟨#[c]⟩) → kv6.map (·.1) = (onceM ((Pm.take i2).flatMap (onM s.steps c) ++ onJ s.steps c m (j + 1))).map pKey := fun z => by
          rw [onJ_snoc ht, if_neg z, List.append_nil]; exact hkk6
        refine ⟨_, rfl, bt, _, _, _, rfl, rfl, hbt6, rfl, _, rfl, rfl, _, rfl, iteDd (fun c1 => ?_) (fun c1 => iteF ⟨g6, hjl, hfz6, ⟨_, rfl⟩, kv6, hk6, no fun z => c1 (by rw [z.1])⟩)⟩
        refine ⟨_, rfl, bt, _, _, _, rfl, rfl, hbt6, rfl, _, rfl, rfl, _, rfl, iteDd (fun c2 => ?_) (fun c2 => ⟨g6, hjl, hfz6, ⟨_, rfl⟩, kv6, hk6, no fun z => c2 (by rw [z.2])⟩)⟩
        have yes : t.1 = m.1 ∧ t.2.1 = ⟨#[c]⟩ := ⟨by injection c1, by injection c2⟩
        refine ⟨_, rfl, _, rfl, bt, _, _, _, rfl, rfl, hbt6, rfl, _, rfl, _, rfl, bt, _, _, _, rfl, rfl, hbt6, rfl, _, _, rfl, rfl, szl (by omega), (by show 2 ≤ sizeLine; decide), fun p2 hp2 => ?_⟩
        have gp2 := same_new hp2 (.tup [V.int t.2.2.2, V.str (m.2 ++ t.2.2.1)])
        have ep2 : upd H6 p2 (.tup [V.int t.2.2.2, V.str (m.2 ++ t.2.2.1)]) p2 = some (.tup ((pKey (t.2.2.2, m.2 ++ t.2.2.1)).map kV)) := upd_same
        refine ⟨d2, _, rfl, DPut.t (v := .bl true) (gp2 _ _ hk6) ep2 (big i2 j m kv6 hkk6), ?_⟩
        refine ⟨same_updN (g6.trans gp2) hd20, hjl, by rw [upd_ne ndd]; exact gp2 _ _ hfz6, ⟨_, rfl⟩, _, upd_same, ?_⟩
        rw [put_keys, hkk6, onJ_snoc ht, if_pos yes, ← List.append_assoc, once_snoc, add_map pKey_inj]
      rintro σ H6 ⟨g6, _, hfz6, ⟨x13, rfl⟩, kv6, hk6, hkk6⟩
      refine ⟨g6, hil2, hfz6, ⟨_, _, _, rfl⟩, kv6, hk6, ?_⟩
      rw [← lsx] at hkk6
      unfold onJ at hkk6
      rw [List.take_length] at hkk6
      rw [flat_take _ hm]; exact hkk6
    rintro σ H5 ⟨g5, _, hfz, ⟨x11, x12, x13, rfl⟩, kv2, hk2, hkk2⟩
    rw [hkl, List.take_length] at hkk2
    have eb : kv2.length = (behindM s.steps Pm c).length := by
      have e1 := congrArg List.length hkk2
      rw [List.length_map, List.length_map] at e1; exact e1
    refine ⟨_, rfl, d2, kv2.length, rfl, .inr ⟨kv2, hk2, rfl⟩, _, _, rfl, rfl, _, rfl, iteDd (fun hgt => ?_) (fun hle => ?_)⟩
    · refine hN (run_cut (i := i + 1) ?_) _ g5
      rw [run_take hc, hpm]
      show (if _ then _ else _) = _
      rw [if_neg (by omega)]
    · refine ⟨_, rfl, hil, g5, behindM s.steps Pm c, d2, _, _, _, _, _, ?_, hd20, ⟨kv2, hk2, hkk2⟩, by omega, fun m hm => ?_, rfl⟩
      · rw [run_take hc, hpm]
        show (if _ then _ else _) = _
        rw [if_pos (by omega)]
      · have := behind_len wT wP m hm; omega
  rintro σ H2 ⟨_, g2, Pm, d, x9, x10, x11, x12, x13, hpm, hd, ⟨kvs, hkd, hkk⟩, lP, wP, rfl⟩
  have lzx : x.cps.toList.length = x.length := hxl
  have hpm' : rwM s (cl x) = some Pm := by
    have e : (cl x).take x.cps.toList.length = cl x := List.take_length ..
    rw [e] at hpm; exact hpm
  have hkl : kvs.length = Pm.length := by
    have e1 := congrArg List.length hkk
    rw [List.length_map, List.length_map] at e1; exact e1
  refine fun d2 hd2 => ?_
  have ndd : d ≠ d2 := ne_of_none hkd hd2
  have hd20 : H d2 = none := g2.free hd2
  have gd := same_new hd2 (.dK [])
  have e2 := upd_same (H := H2) (a := d2) (o := .dK [])
  have hkd := gd _ _ hkd
  have g3 := g2.trans gd
  generalize upd H2 d2 (.dK []) = H3 at e2 hkd g3 ⊢
  have wl : ∀ c : Mk, ∀ j, (wOnJ s c j).length ≤ 999 := fun c j => by
    unfold wOnJ
    rw [List.length_map]
    have h1 := List.length_filter_le (fun m => decide (mkKey m = Sum.inl c.1)) (s.ends.take j)
    rw [List.length_take] at h1
    omega
  have wl0 : ∀ c : Mk, (wOnM s c).length ≤ 999 := fun c => by
    unfold wOnM
    rw [List.length_map]
    have := List.length_filter_le (fun m => decide (mkKey m = Sum.inl c.1)) s.ends
    omega
  have big : ∀ (i j : Nat) (c : Mk) (kv : List (Key × V)), kv.map (·.1) = (onceM ((Pm.take i).flatMap (wOnM s) ++ wOnJ s c j)).map Sum.inr → kv.length < sizeLine := fun i j c kv hk => by
    have e1 := congrArg List.length hk
    rw [List.length_map, List.length_map] at e1
    have e2 := once_len ((Pm.take i).flatMap (wOnM s) ++ wOnJ s c j)
    have e3 := flat_len wl0 (Pm.take i)
    have e4 := wl c j
    rw [List.length_append] at e2
    rw [List.length_take] at e3
    have e5 : 999 * min i Pm.length ≤ 999 * 999 := Nat.mul_le_mul_left _ (by omega)
    rw [sizeLine_eq]; omega
  refine ⟨_, rfl, d, kvs, rfl, hkd, fun o => ?_⟩
  refine for_tkeys (kvs := kvs) (fun i' σ H' => Same H H' ∧ i' ≤ kvs.length ∧ H' d = some (.frz o (.dT kvs)) ∧ (∃ x11 x12 x15 x16, σ = [some (.ref a), some (.str x), some (.str s.signs), some (.int s.rooms), some (.ref pb), some (.ref ps), some (.ref pe), some (.ref d), x8, x9, x10, x11, x12, x13, some (.ref d2), x15, x16]) ∧ ∃ kv2, H' d2 = some (.dK kv2) ∧ kv2.map (·.1) = (onceM ((Pm.take i').flatMap (wOnM s))).map Sum.inr)
    ⟨same_updN g3 hd, Nat.zero_le _, upd_same, ⟨_, _, _, _, rfl⟩, [], by rw [upd_ne ndd.symm]; exact e2, rfl⟩ (fun i σ H' _ z => z.2.2.1) ?_ ?_
  · rintro i2 k2 y2 b σ H5 hk ⟨g5, hi2, hfz, ⟨x11, x12, x15, x16, rfl⟩, kv2, hk2, hkk2⟩ hb
    have hil2 : i2 < kvs.length := (List.getElem?_eq_some_iff.mp hk).1
    obtain ⟨m, hm, rfl⟩ : ∃ m, Pm[i2]? = some m ∧ k2 = pKey m := by
      have e1 := congrArg (fun l => l[i2]?) hkk
      simp only [List.getElem?_map, hk, Option.map_some] at e1
      cases hp : Pm[i2]? with
      | none => rw [hp] at e1; cases e1
      | some m => rw [hp] at e1; injection e1 with e1; exact ⟨m, rfl, e1⟩
    have wm := wP m (List.mem_of_getElem? hm)
    refine ⟨b, _, rfl, SqT.of hb, rfl, _, _, rfl, _, _, rfl, rfl, ?_⟩
    refine ⟨_, rfl, pe, rfl, ⟨xe, g5.seq h4⟩, ?_⟩
    refine for_list (xs := xe) (fun j σ H' => Same H H' ∧ j ≤ xe.length ∧ H' d = some (.frz o (.dT kvs)) ∧ (∃ x15 x16, σ = [some (.ref a), some (.str x), some (.str s.signs), some (.int s.rooms), some (.ref pb), some (.ref ps), some (.ref pe), some (.ref d), x8, x9, x10, some (.int m.1), some (.str m.2), x13, some (.ref d2), x15, x16]) ∧ ∃ kv2, H' d2 = some (.dK kv2) ∧ kv2.map (·.1) = (onceM ((Pm.take i2).flatMap (wOnM s) ++ wOnJ s m j)).map Sum.inr)
      ⟨g5, Nat.zero_le _, hfz, ⟨_, _, rfl⟩, kv2, hk2, by rw [show wOnJ s m 0 = [] from rfl, List.append_nil]; exact hkk2⟩ (fun j σ H' _ z => z.1.seq h4) ?_ ?_
    · rintro j y σ H6 hy ⟨g6, hj, hfz6, ⟨x15, x16, rfl⟩, kv6, hk6, hkk6⟩
      obtain ⟨t, ht, bt, rfl, hbt⟩ := paired_get h7 hy
      have hjl : j < xe.length := (List.getElem?_eq_some_iff.mp hy).1
      have hbt6 := Same.seqT g6 hbt
      have tw := hSh.2.2 t (List.mem_of_getElem? ht)
      refine ⟨bt, _, rfl, hbt6, rfl, _, _, rfl, _, _, rfl, rfl, ?_⟩
      refine ⟨_, rfl, _, rfl, rfl, _, rfl, iteDd (fun c1 => ?_) (fun c1 => ⟨g6, hjl, hfz6, ⟨_, _, rfl⟩, kv6, hk6, by rw [wOnJ_snoc ht, if_neg (fun z => c1 (by rw [z])), List.append_nil]; exact hkk6⟩)⟩
      refine ⟨_, rfl, _, rfl, _, rfl, _, _, rfl, rfl, szl (by omega), d2, _, rfl, DPut.k (k := Sum.inr (m.2 ++ t.2)) (v := .bl true) hk6 (big i2 j m kv6 hkk6), ?_⟩
      refine ⟨same_updN g6 hd20, hjl, by rw [upd_ne ndd]; exact hfz6, ⟨_, _, rfl⟩, _, upd_same, ?_⟩
      rw [put_keys, hkk6, wOnJ_snoc ht, if_pos (by injection c1), ← List.append_assoc, once_snoc, add_map (fun a b h => by injection h)]
    rintro σ H6 ⟨g6, _, hfz6, ⟨x15, x16, rfl⟩, kv6, hk6, hkk6⟩
    refine ⟨g6, hil2, hfz6, ⟨_, _, _, _, rfl⟩, kv6, hk6, ?_⟩
    rw [← lex] at hkk6
    unfold wOnJ at hkk6
    rw [List.take_length] at hkk6
    rw [flat_take _ hm]; exact hkk6
  rintro σ H5 ⟨g5, _, hfz, ⟨x11, x12, x15, x16, rfl⟩, kv2, hk2, hkk2⟩
  rw [hkl, List.take_length] at hkk2
  have hk3 : kv2.map (fun kv => kV kv.1) = (wordsM s Pm).map V.str := by
    have := congrArg (List.map kV) hkk2
    rw [List.map_map, List.map_map] at this
    exact this
  refine ⟨_, rfl, d2, kv2, wordsM s Pm, rfl, hk2, hk3, fun l ss hp hs hl => ?_⟩
  exact q Pm hpm' l ss _ (g5.trans (same_new hl _)) (g5.free hl) hp hs upd_same

theorem sc_law_good : FnScope ["_law_one", "_law_other", "_law_text_here", "_law_mine", "_law_theirs", "_law_turned", "_law_both", "_law_more", "_law_kept"] ["_law_one", "_law_other", "_law_text_here"] (defScope s_law_good) := ⟨rfl, rfl, rfl, by decide +kernel, rfl, by decide +kernel, by decide +kernel⟩
theorem ok_law_good (B : Bi mg) {c_OtherSigns c_TooMany : Addr} (XB : Xb K mg c_OtherSigns c_TooMany) (C_law_words : Cal P w K mg base "_law_words" ["_law_scribe", "_law_text_here"] 1 (spWords K)) (C_mirrored : Cal P w K mg base "mirrored" ["scribe"] 2 (spMir K)) (C_either_of : Cal1 P w K mg base "either_of" ["one", "other"] 2 (spEither K c_OtherSigns c_TooMany)) (C_kept_to : Cal1 P w K mg base "kept_to" ["scribe", "other"] 4 (spKept K c_OtherSigns c_TooMany)) {f : Addr} {fd : FuncData} (F : Fun K "_law_good" "_law_good" s_law_good f fd) : FnOk P w K mg base CX0 5 f fd ["_law_one", "_law_other", "_law_text_here"] (spGood K) := by
  refine F.ok sc_law_good (fun vs H Q E h => ?_) (fun cdv A outer s H vs Q E hr h => ?_)
  · obtain ⟨v, s, pb, ps, pe, w, u, qb, qs, qe, x, rfl, _⟩ := h; rfl
  obtain ⟨v, s, pb, ps, pe, w, u, qb, qs, qe, x, rfl, hN1, hN2, hB1, hB2, ok1, ok2, es, r0, r1, t0, t1, hx, q⟩ := h
  refine ⟨_, (pss_cons (ps_set (i := 3) sc_law_good.nd rfl (Or.inr rfl) (pe_abs (pe_fn C_law_words hr (by decide : 1 ≤ 4) (by rfl) (pa_cons (pv 0) (pa_cons (pv 2) pa_nil)))))
      (pss_cons (ps_set (i := 4) sc_law_good.nd rfl (Or.inl rfl) (pe_abs (pe_fn C_law_words hr (by decide : 1 ≤ 4) (by rfl) (pa_cons (pv 1) (pa_cons (pv 2) pa_nil)))))
      (pss_cons (ps_set (i := 5) sc_law_good.nd rfl (Or.inl rfl) (pe_abs (pe_fn C_law_words hr (by decide : 1 ≤ 4) (by rfl) (pa_cons (pe_fn C_mirrored hr (by decide : 2 ≤ 4) (by rfl) (pa_cons (pv 0) pa_nil)) (pa_cons (pe_revS (pv 2) (pe_un un_neg pe_int)) pa_nil)))))
      (pss_cons (ps_set (i := 6) sc_law_good.nd rfl (Or.inl rfl) (pe_abs (pe_fn C_law_words hr (by decide : 1 ≤ 4) (by rfl) (pa_cons (pe_fn1 C_either_of hr (by decide : 2 ≤ 4) (by rfl) pass_no (pa_cons (pv 0) (pa_cons (pv 1) pa_nil))) (pa_cons (pv 2) pa_nil)))))
      (pss_cons (ps_if (pt_abs (PW.pt (pw_or (pt_cmpR op_isN (pv 3) pe_non (nomark _)) (pw_or1 (pt_cmpR op_isN (pv 4) pe_non (nomark _)))))) (pss_one (ps_ret pe_bl)) pss_nil)
      (pss_cons (ps_compset (i := 7) sc_law_good.nd rfl (Or.inl rfl) (by rfl) (by rfl) (blk_mk (N' := ["_law_word_here", "_law_mine"]) (js := [none, some 3]) rfl (by decide +kernel) rfl (by decide +kernel) rfl rfl) (kPI (K := K) (fun k => iList k _) (pi_list (pv 4))) (fun _ _ _ _ _ => (pg_name (i := 0) (show List.Nodup (["_law_word_here", "_law_mine"] : List Str) by decide +kernel) rfl (Or.inl rfl))) (fun _ _ _ _ _ => (pf_one (pt_cmpR (kOp (K := K) (rIn · true) op_notIn_seq) (pv 0) (pv 1) rfl))) (fun _ _ _ _ _ => (pv 0)))
      (pss_cons (ps_if (pt_abs (PW.pt (pw_and (pt_cmpR op_notN (pv 6) pe_non (nomark _)) (pw_and1 (pt_cmpR (kOp (K := K) rNeD (op_neD hr.units)) (pv 6) (pe_callB (kCall (K := K) rSortL call_sorted_l) (by rfl) B.sorted bt_sorted (pa_cons (pe_op op_cat (pv 3) (pv 7)) pa_nil)) (nomark _)))))) (pss_one (ps_ret pe_bl)) pss_nil)
      (pss_cons (ps_if (pt_abs (PW.pt (pw_and (pt_cmpR op_notN (pv 5) pe_non (nomark _)) (pw_and1 (pt_cmpR (kOp (K := K) rNeD (op_neD hr.units)) (pv 5) (pe_callB (kCall (K := K) rSortL call_sorted_l) (by rfl) B.sorted bt_sorted (pa_cons (pe_comp rfl (blk_mk (N' := ["_law_word_here"]) (js := [none]) rfl (by decide +kernel) rfl (by decide +kernel) rfl rfl) (kPI (K := K) (fun k => iList k _) (pi_list (pv 3))) (fun _ _ _ _ _ => (pg_name (i := 0) (show List.Nodup (["_law_word_here"] : List Str) by decide +kernel) rfl (Or.inl rfl))) (fun _ _ _ _ _ => pf_nil) (fun _ _ _ _ _ => (pe_revS (pv 0) (pe_un un_neg pe_int)))) pa_nil)) (nomark _)))))) (pss_one (ps_ret pe_bl)) pss_nil)
      (pss_cons (ps_set (i := 8) sc_law_good.nd rfl (Or.inl rfl) (pe_abs (pe_fn C_law_words hr (by decide : 1 ≤ 4) (by rfl) (pa_cons (pe_fn1 C_kept_to hr (by decide : 4 ≤ 4) (by rfl) pass_no (pa_cons (pv 0) (pa_cons (pv 1) pa_nil))) (pa_cons (pv 2) pa_nil)))))
      (pss_cons (ps_if (pt_cmpR op_isN (pv 8) pe_non (nomark _)) (pss_one (ps_ret pe_bl)) pss_nil)
      (pss_cons (ps_if (pt_cmpR (kOp (K := K) rEqD (op_eqD hr.units)) (pv 4) (pe_lst pa_nil) (nomark _)) (pss_one (ps_ret (pe_cmpR (kOp (K := K) rEqD (op_eqD hr.units)) (pv 8) (pe_lst pa_nil) (nomark _)))) pss_nil)
      (pss_one (ps_ret (pe_cmpR (kOp (K := K) rEqD (op_eqD hr.units)) (pv 8) (pv 3) (nomark _))))))))))))))), ?_⟩
  have okR1 : OkR s := okR_of ok1 r1
  have okR2 : OkR u := okR_of ok2 t1
  have sh1 := short_of ok1
  have sh2 := short_of ok2
  have L1 : LensW s := ⟨Nat.le_trans ok1.lb (by decide), Nat.le_trans ok1.ls (by decide), Nat.le_trans ok1.le (by decide)⟩
  have L2 : LensW u := ⟨Nat.le_trans ok2.lb (by decide), Nat.le_trans ok2.ls (by decide), Nat.le_trans ok2.le (by decide)⟩
  have bd1 : Bd s := Bd.of ok1 (by decide)
  have hxl : (cl x).length = x.length := cl_length x
  refine ⟨fun v H' => Same H H' ∧ WRes s (cl x) v H', ⟨_, rfl, _, rfl, v, s, pb, ps, pe, x, rfl, hN1.v, hB1, L1, sh1, hx, fun P hP l ss H' g hl hp hs e => ⟨g, .inr ⟨P, l, ss, rfl, hP, hp, hs, e⟩⟩, fun hn H' g => ⟨g, .inl ⟨rfl, hn⟩⟩⟩, ?_⟩
  rintro vm H1 ⟨g1, hm⟩
  refine ⟨fun v H' => Same H1 H' ∧ WRes u (cl x) v H', ⟨_, rfl, _, rfl, w, u, qb, qs, qe, x, rfl, (hN2.mono g1).v, (hB2.mono g1), L2, sh2, hx, fun P hP l ss H' g hl hp hs e => ⟨g, .inr ⟨P, l, ss, rfl, hP, hp, hs, e⟩⟩, fun hn H' g => ⟨g, .inl ⟨rfl, hn⟩⟩⟩, ?_⟩
  rintro vt H2 ⟨g2, ht⟩
  have g02 := g1.trans g2
  refine ⟨fun v H' => Same H2 H' ∧ WRes (mirS s) (cl x).reverse v H', ⟨_, rfl, v, s, pb, ps, pe, rfl, (hN1.mono g02).v, bd1, fun vr H3 pbr psr per g3 hNr _ hBr => ⟨_, rfl, _, rfl, rfl, x, rfl, szl (by omega), vr, mirS s, pbr, psr, per, rvS x, rfl, hNr.v, hBr, lens_mir ok1, short_mir sh1, (by rw [rvS_len]; exact hx), fun P hP l ss H' g hl hp hs e => ⟨g3.trans g, .inr ⟨P, l, ss, rfl, hP, hp, hs, e⟩⟩, fun hn H' g => ⟨g3.trans g, .inl ⟨rfl, hn⟩⟩⟩⟩, ?_⟩
  rintro vr H3 ⟨g3, hr⟩
  have g03 := g02.trans g3
  refine ⟨fun v H' => Same H3 H' ∧ WRes (eithS s u) (cl x) v H', ⟨_, rfl, _, rfl, v, s, pb, ps, pe, w, u, qb, qs, qe, rfl, hN1.mono g03, hN2.mono g03, ⟨okR1.lb, okR1.ls, okR1.le⟩, ⟨okR2.lb, okR2.ls, okR2.le⟩, hB1.mono g03, fun z => absurd es z, fun _ z => absurd z (by omega), fun _ _ ve He pbe pse pee ge hNe _ hBe => ⟨_, rfl, ve, eithS s u, pbe, pse, pee, x, rfl, hNe.v, hBe, lens_eith ok1 ok2, short_eith sh1 sh2, hx, fun P hP l ss H' g hl hp hs e => ⟨ge.trans g, .inr ⟨P, l, ss, rfl, hP, hp, hs, e⟩⟩, fun hn H' g => ⟨ge.trans g, .inl ⟨rfl, hn⟩⟩⟩⟩, ?_⟩
  rintro vb H4 ⟨g4, hb⟩
  have g04 := g03.trans g4
  rcases hm with ⟨rfl, _⟩ | ⟨P, lm, ss, rfl, hP, hpm, hsm, em⟩
  · refine ⟨fun b H' => b = true ∧ H4 = H', ⟨_, rfl, rfl, _, rfl, iteT ⟨rfl, rfl⟩⟩, ?_⟩
    rintro _ _ ⟨rfl, rfl⟩
    exact iteT (q _ g04)
  rcases ht with ⟨rfl, _⟩ | ⟨P2, lt, st, rfl, hP2, hpt, hst, et⟩
  · refine ⟨fun b H' => b = true ∧ H4 = H', ⟨_, rfl, rfl, _, rfl, iteF ⟨_, rfl, rfl, _, rfl, rfl, rfl⟩⟩, ?_⟩
    rintro _ _ ⟨rfl, rfl⟩
    exact iteT (q _ g04)
  refine ⟨fun b H' => b = false ∧ H4 = H', ⟨_, rfl, rfl, _, rfl, iteF ⟨_, rfl, rfl, _, rfl, rfl, rfl⟩⟩, ?_⟩
  rintro _ _ ⟨rfl, rfl⟩
  refine iteF ?_
  have em := ((g2.trans g3).trans g4) _ _ em
  have et := (g3.trans g4) _ _ et
  have lss : ss.length ≤ 62 * 999 := by rw [hpm.length_eq]; exact words_len hP ok1.lb ok1.le
  have lst : st.length ≤ 62 * 999 := by rw [hpt.length_eq]; exact words_len hP2 ok2.lb ok2.le
  refine ⟨_, rfl, lt, rfl, ⟨_, SqL.of et⟩, ?_⟩
  refine comp_list (xs := st.map V.str) (fun i ys τ H' => H4 = H' ∧ (∃ x0, τ = [x0, some (.ref lm)]) ∧ i ≤ st.length ∧ ys = ((st.take i).filter (fun z => !decide (z ∈ ss))).map V.str) ⟨rfl, ⟨_, rfl⟩, Nat.zero_le _, rfl⟩ (fun i ys τ H' z => z.1 ▸ SqL.of et) ?_ ?_
  · rintro i y ys τ _ hy ⟨rfl, ⟨x0, rfl⟩, hi, rfl⟩
    rw [List.getElem?_map] at hy
    obtain ⟨z, hz, rfl⟩ := Option.map_eq_some_iff.mp hy
    have hil : i < st.length := (List.getElem?_eq_some_iff.mp hz).1
    have hfl := List.length_filter_le (fun z => !decide (z ∈ ss)) (st.take i)
    rw [List.length_take] at hfl
    refine ⟨_, rfl, _, rfl, lm, _, rfl, .inl (SqL.of em), rfl, ?_, _, rfl, ?_⟩
    · rw [List.all_map]; exact List.all_eq_true.mpr fun _ _ => rfl
    show if (!inV (V.str z) (ss.map V.str)) = true then _ else _
    rw [any_strs]
    refine iteNd (fun c => ?_) (fun c => ?_)
    · refine ⟨_, rfl, ?_, rfl, ⟨_, rfl⟩, hil, ?_⟩
      · rw [List.length_map, sizeLine_eq]; omega
      · rw [take_get hz, List.filter_append, List.filter_cons_of_pos (by simpa using c), List.map_append]; rfl
    · refine ⟨rfl, ⟨_, rfl⟩, hil, ?_⟩
      rw [take_get hz, List.filter_append, List.filter_cons_of_neg (by simpa using c), List.filter_nil, List.append_nil]
  rintro zs τ _ ⟨rfl, _, _, rfl⟩ lr hlr
  rw [List.length_map, List.take_length]
  have hfl := List.length_filter_le (fun z => !decide (z ∈ ss)) st
  have gr := same_new hlr (.lst ((st.filter fun z => !decide (z ∈ ss)).map V.str))
  have er := upd_same (H := H4) (a := lr) (o := .lst ((st.filter fun z => !decide (z ∈ ss)).map V.str))
  generalize upd H4 lr (.lst ((st.filter fun z => !decide (z ∈ ss)).map V.str)) = H5 at gr er ⊢
  refine ⟨fun b H' => b = false ∧ Same H5 H', ?_, ?_⟩
  · rcases hb with ⟨rfl, _⟩ | ⟨P3, lb, sb, rfl, hP3, hpb, hsb, eb⟩
    · exact ⟨_, rfl, rfl, _, rfl, iteF ⟨rfl, Same.refl _⟩⟩
    refine ⟨_, rfl, rfl, _, rfl, iteT ⟨_, rfl, _, rfl, _, rfl, lm, lr, _, _, rfl, rfl, gr _ _ em, er, ?_, fun pc hpc => ?_⟩⟩
    · rw [List.length_map, List.length_map, sizeLine_eq]; omega
    have gc := same_new hpc (.lst (ss.map V.str ++ (st.filter fun z => !decide (z ∈ ss)).map V.str))
    have ec := upd_same (H := H5) (a := pc) (o := .lst (ss.map V.str ++ (st.filter fun z => !decide (z ∈ ss)).map V.str))
    generalize upd H5 pc (.lst (ss.map V.str ++ (st.filter fun z => !decide (z ∈ ss)).map V.str)) = H6 at gc ec ⊢
    have ec' : H6 pc = some (.lst ((ss ++ st.filter fun z => !decide (z ∈ ss)).map V.str)) := by rw [List.map_append]; exact ec
    refine ⟨pc, _, rfl, SqL.of ec', fun lq sq hpq hsq hlq => ?_⟩
    have e := sort_uniq (hpq.trans ((both_words okR1 okR2 hP hP2 hP3 hpm hpt).symm.trans hpb.symm)) hsq hsb
    subst e
    have gq := same_new hlq (.lst (sq.map V.str))
    refine ⟨.lst (sq.map D.str), .lst (sq.map D.str), rep_lst (SqL.of (gq _ _ (gc _ _ (gr _ _ eb)))) (reps_strs _), rep_lst (SqL.of upd_same) (reps_strs _), by simp only [deep, deeps_strs]; decide, _, rfl, ?_⟩
    rw [eqD_refl]
    exact ⟨rfl, gc.trans gq⟩
  rintro _ H6 ⟨rfl, g6⟩
  refine iteF ?_
  have em := g6 _ _ (gr _ _ em)
  have et := g6 _ _ (gr _ _ et)
  refine ⟨fun b H' => b = false ∧ Same H6 H', ?_, ?_⟩
  · rcases hr with ⟨rfl, _⟩ | ⟨P4, lq, sr, rfl, hP4, hpr, hsr, e4⟩
    · exact ⟨_, rfl, rfl, _, rfl, iteF ⟨rfl, Same.refl _⟩⟩
    refine ⟨_, rfl, rfl, _, rfl, iteT ⟨_, rfl, _, rfl, lm, rfl, ⟨_, SqL.of em⟩, ?_⟩⟩
    refine comp_list (xs := ss.map V.str) (fun i ys τ H' => H6 = H' ∧ (∃ x0, τ = [x0]) ∧ i ≤ ss.length ∧ ys = ((ss.take i).map rvS).map V.str) ⟨rfl, ⟨_, rfl⟩, Nat.zero_le _, rfl⟩ (fun i ys τ H' z => z.1 ▸ SqL.of em) ?_ ?_
    · rintro i y ys τ _ hy ⟨rfl, ⟨x0, rfl⟩, hi, rfl⟩
      rw [List.getElem?_map] at hy
      obtain ⟨z, hz, rfl⟩ := Option.map_eq_some_iff.mp hy
      have hil : i < ss.length := (List.getElem?_eq_some_iff.mp hz).1
      have hzl := wr_len sh1 ((words_wr hP z).mp (hpm.mem_iff.mp (List.mem_of_getElem? hz)))
      refine ⟨_, rfl, _, rfl, rfl, z, rfl, szl (by omega), ?_, rfl, ⟨_, rfl⟩, hil, ?_⟩
      · rw [List.length_map, List.length_map, List.length_take, sizeLine_eq]; omega
      · rw [take_get hz, List.map_append, List.map_append]; rfl
    rintro zs τ _ ⟨rfl, _, _, rfl⟩ lz hlz
    rw [List.length_map, List.take_length]
    have gz := same_new hlz (.lst ((ss.map rvS).map V.str))
    have ez := upd_same (H := H6) (a := lz) (o := .lst ((ss.map rvS).map V.str))
    generalize upd H6 lz (.lst ((ss.map rvS).map V.str)) = H7 at gz ez ⊢
    refine ⟨lz, _, rfl, SqL.of ez, fun lw sw hpw hsw hlw => ?_⟩
    have e := sort_uniq (hpw.trans ((hpm.map rvS).trans ((mir_words hP hP4).symm.trans hpr.symm))) hsw hsr
    subst e
    have gw := same_new hlw (.lst (sw.map V.str))
    refine ⟨.lst (sw.map D.str), .lst (sw.map D.str), rep_lst (SqL.of (gw _ _ (gz _ _ (g6 _ _ (gr _ _ (g4 _ _ e4)))))) (reps_strs _), rep_lst (SqL.of upd_same) (reps_strs _), by simp only [deep, deeps_strs]; decide, _, rfl, ?_⟩
    rw [eqD_refl]
    exact ⟨rfl, gz.trans gw⟩
  rintro _ H7 ⟨rfl, g7⟩
  refine iteF ?_
  have em := g7 _ _ em
  have et := g7 _ _ et
  have g07 := ((g04.trans gr).trans g6).trans g7
  have hr200 : s.rooms * u.rooms ≤ 200 := by
    have h1 : s.rooms * u.rooms ≤ 14 * u.rooms := Int.mul_le_mul_of_nonneg_right r1 t0
    omega
  refine ⟨fun v H' => Same H7 H' ∧ WRes (kpS s u) (cl x) v H', ⟨_, rfl, _, rfl, v, s, pb, ps, pe, w, u, qb, qs, qe, rfl, (hN1.mono g07).v, (hN2.mono g07).v, ⟨Nat.le_trans ok1.lb (by decide), Nat.le_trans ok1.ls (by decide), Nat.le_trans ok1.le (by decide)⟩, ⟨Nat.le_trans ok2.lb (by decide), Nat.le_trans ok2.ls (by decide), Nat.le_trans ok2.le (by decide)⟩, ⟨r0, by omega⟩, ⟨t0, by omega⟩, fun z => absurd es z, fun _ z => absurd z (by omega), fun _ _ vk Hk pbk psk pek gk hNk _ hBk => ⟨_, rfl, vk, kpS s u, pbk, psk, pek, x, rfl, hNk.v, hBk, lens_kp ok1 ok2 t1, short_kp sh1, hx, fun P hP l ss H' g hl hp hs e => ⟨gk.trans g, .inr ⟨P, l, ss, rfl, hP, hp, hs, e⟩⟩, fun hn H' g => ⟨gk.trans g, .inl ⟨rfl, hn⟩⟩⟩⟩, ?_⟩
  rintro vk H8 ⟨g8, hk⟩
  have g08 := g07.trans g8
  rcases hk with ⟨rfl, _⟩ | ⟨P5, lk, sk, rfl, hP5, hpk, hsk, ek⟩
  · exact ⟨_, rfl, rfl, _, rfl, iteT (q _ g08)⟩
  refine ⟨_, rfl, rfl, _, rfl, iteF ?_⟩
  have em := g8 _ _ em
  have et := g8 _ _ et
  refine ⟨_, rfl, szl (by simp), fun l0 hl0 => ?_⟩
  have g0 := same_new hl0 (.lst [])
  refine ⟨.lst (st.map D.str), .lst [], rep_lst (SqL.of (g0 _ _ et)) (reps_strs _), rep_lst (SqL.of upd_same) .nil, by simp only [deep, deeps_strs]; decide, _, rfl, ?_⟩
  have em := g0 _ _ em
  have ek := g0 _ _ ek
  have g09 := g08.trans g0
  generalize upd H8 l0 (.lst []) = H9 at em ek g09 ⊢
  have kw : ∀ y, y ∈ wordsM (kpS s u) P5 ↔ y ∈ wordsM s P ∧ ∃ z, z ∈ st := fun y => by
    rw [words_wr hP5, wr_kept okR2, ← words_wr hP]
    refine and_congr_right fun _ => ⟨fun ⟨z, hz⟩ => ⟨z, hpt.mem_iff.mpr ((words_wr hP2 z).mpr hz)⟩, fun ⟨z, hz⟩ => ⟨z, (words_wr hP2 z).mp (hpt.mem_iff.mp hz)⟩⟩
  cases hst0 : st with
  | nil =>
    refine iteT ?_
    rw [hst0] at kw
    have e : sk = [] := by
      cases sk with
      | nil => rfl
      | cons z sk =>
        obtain ⟨_, _, h⟩ := (kw z).mp (hpk.mem_iff.mp (List.mem_cons_self ..))
        exact absurd h (by simp)
    subst e
    refine ⟨_, rfl, szl (by simp), fun l1 hl1 => ?_⟩
    have g1 := same_new hl1 (.lst [])
    exact ⟨.lst [], .lst [], rep_lst (SqL.of (g1 _ _ ek)) .nil, rep_lst (SqL.of upd_same) .nil, by decide, q _ (g09.trans g1)⟩
  | cons z0 st0 =>
    refine iteF ?_
    rw [hst0] at kw
    have e := sort_uniq (hpk.trans (((List.perm_ext_iff_of_nodup (once_nodup _) (once_nodup _)).mpr fun y => (kw y).trans ⟨fun h => h.1, fun h => ⟨h, z0, List.mem_cons_self ..⟩⟩).trans hpm.symm)) hsk hsm
    subst e
    refine ⟨_, rfl, _, rfl, .lst (sk.map D.str), .lst (sk.map D.str), rep_lst (SqL.of ek) (reps_strs _), rep_lst (SqL.of em) (reps_strs _), by simp only [deep, deeps_strs]; decide, ?_⟩
    rw [eqD_refl]
    exact q _ g09

theorem sc_law : FnScope ["_law_script", "_law_signs_here", "_law_one", "_law_other", "_law_text_here"] ["_law_script"] (defScope s_law) := ⟨rfl, rfl, rfl, by decide +kernel, rfl, by decide +kernel, by decide +kernel⟩
theorem ok_law (B : Bi mg) {c_OtherSigns c_TooMany : Addr} (XB : Xb K mg c_OtherSigns c_TooMany) (C_law_signs : Cal P w K mg base "_law_signs" ["_law_number"] 1 (spSigns2)) (C_law_choices : Cal P w K mg base "_law_choices" ["_law_script", "_law_salt", "_law_most", "_law_signs_here"] 3 (spDraw4H K)) (C_law_mixed : Cal P w K mg base "_law_mixed" ["_law_cell", "_law_k"] 1 (spMixed)) (C_law_text : Cal P w K mg base "_law_text" ["_law_script", "_law_signs_here", "_law_most"] 2 (spText5 K)) (C_law_led : Cal P w K mg base "_law_led" ["_law_scribe", "_law_script", "_law_salt", "_law_most"] 2 (spLed K)) (C_law_cell_at : Cal P w K mg base "_law_cell_at" ["_law_script", "_law_k"] 1 (spCell K)) (C_law_good : Cal P w K mg base "_law_good" ["_law_one", "_law_other", "_law_text_here"] 5 (spGood K)) {f : Addr} {fd : FuncData} (F : Fun K "law" "law" s_law f fd) : FnOk P w K mg base CX0 6 f fd ["_law_script"] (spLaw K) := by
  refine F.ok sc_law (fun vs H Q E h => ?_) (fun cdv A outer s H vs Q E hr h => ?_)
  · obtain ⟨a, ns, rfl, _⟩ := h; rfl
  obtain ⟨a, ns, rfl, hS, h63, q⟩ := h
  refine ⟨_, (pss_cons (ps_set (i := 1) sc_law.nd rfl (Or.inl rfl) (pe_fn C_law_signs hr (by decide : 1 ≤ 5) (by rfl) (pa_cons (pe_fn C_law_mixed hr (by decide : 1 ≤ 5) (by rfl) (pa_cons (pe_fn C_law_cell_at hr (by decide : 1 ≤ 5) (by rfl) (pa_cons (pv 0) (pa_cons pe_int pa_nil))) (pa_cons pe_int pa_nil))) pa_nil)))
      (pss_cons (ps_set (i := 2) sc_law.nd rfl (Or.inl rfl) (pe_fn C_law_choices hr (by decide : 3 ≤ 5) (by rfl) (pa_cons (pe_slice (kSl (K := K) rSlL sl_list) (pv 0) po_none (po_some pe_int)) (pa_cons pe_int (pa_cons pe_int (pa_cons (pv 1) pa_nil))))))
      (pss_cons (ps_set (i := 3) sc_law.nd rfl (Or.inl rfl) (pe_fn C_law_choices hr (by decide : 3 ≤ 5) (by rfl) (pa_cons (pe_op op_cat (pe_slice (kSl (K := K) rSlL sl_list) (pv 0) po_none (po_some pe_int)) (pe_slice (kSl (K := K) rSlL sl_list) (pv 0) (po_some pe_int) (po_some pe_int))) (pa_cons pe_int (pa_cons pe_int (pa_cons (pv 1) pa_nil))))))
      (pss_cons (ps_for PassesOwn.never (by rfl) (kPI (K := K) (fun k => iList k _) (pi_list (pe_lst (pa_cons (pe_fn C_law_text hr (by decide : 2 ≤ 5) (by rfl) (pa_cons (pv 0) (pa_cons (pv 1) (pa_cons pe_int pa_nil)))) (pa_cons (pe_fn C_law_led hr (by decide : 2 ≤ 5) (by rfl) (pa_cons (pv 2) (pa_cons (pv 0) (pa_cons pe_int (pa_cons pe_int pa_nil))))) pa_nil))))) (pg_name (i := 4) sc_law.nd rfl (Or.inl rfl)) (pss_one (ps_if (pt_not (pt_val (pe_fn C_law_good hr (by decide : 5 ≤ 5) (by rfl) (pa_cons (pv 2) (pa_cons (pv 3) (pa_cons (pv 4) pa_nil)))))) (pss_one (ps_ret pe_bl)) pss_nil)))
      (pss_one (ps_ret pe_bl)))))), ?_⟩
  refine ⟨_, rfl, a, ns, 0, rfl, hS, by decide, _, _, rfl, fun n0 _ _ => ⟨n0, rfl, fun g H0 hg g0 => ?_⟩⟩
  obtain ⟨ms, e1, e2⟩ := cut_ints ns none (some 40)
  refine ⟨_, rfl, _, rfl, a, _, rfl, g0.seq hS, fun pa hpa => ?_⟩
  rw [e1]
  have ga := same_new hpa (.lst (ms.map V.int))
  have ea := upd_same (H := H0) (a := pa) (o := .lst (ms.map V.int))
  generalize upd H0 pa (.lst (ms.map V.int)) = Ha at ga ea ⊢
  refine ⟨_, rfl, pa, ms, 1000, 5, g, rfl, SqL.of ea, by omega, by decide, by decide, by decide, by decide, hg, fun v1 H1 s pb ps pe ⟨g1, hV1, ok1, r0, r1, _⟩ es hN1 hB1 => ?_⟩
  have g01 := (g0.trans ga).trans g1
  obtain ⟨m1, f1, f2⟩ := cut_one ns h63
  obtain ⟨m2, f3, f4⟩ := cut_24 ns h63
  refine ⟨_, rfl, _, rfl, a, _, rfl, g01.seq hS, fun pc hpc => ?_⟩
  rw [f1]
  have gc := same_new hpc (.lst (m1.map V.int))
  have ec := upd_same (H := H1) (a := pc) (o := .lst (m1.map V.int))
  generalize upd H1 pc (.lst (m1.map V.int)) = Hc at gc ec ⊢
  refine ⟨_, rfl, _, rfl, _, rfl, a, _, rfl, (g01.trans gc).seq hS, fun pd hpd => ?_⟩
  rw [f3]
  have gd := same_new hpd (.lst (m2.map V.int))
  have ed := upd_same (H := Hc) (a := pd) (o := .lst (m2.map V.int))
  have ec := gd _ _ ec
  generalize upd Hc pd (.lst (m2.map V.int)) = Hd at gd ed ec ⊢
  have hml : (m1.map V.int ++ m2.map V.int).length ≤ 64 := by rw [List.length_append, List.length_map, List.length_map]; omega
  refine ⟨pc, pd, _, _, rfl, rfl, ec, ed, szl (by rw [List.length_map, List.length_map]; omega), fun pj hpj => ?_⟩
  have gj := same_new hpj (.lst (m1.map V.int ++ m2.map V.int))
  have ej := upd_same (H := Hd) (a := pj) (o := .lst (m1.map V.int ++ m2.map V.int))
  generalize upd Hd pj (.lst (m1.map V.int ++ m2.map V.int)) = Hj at gj ej ⊢
  rw [← List.map_append] at ej
  have gcj := (gc.trans gd).trans gj
  refine ⟨_, rfl, pj, m1 ++ m2, 3000, 5, g, rfl, SqL.of ej, ?_, by decide, by decide, by decide, by decide, hg, fun v2 H2 u qb qs qe ⟨g2, hV2, ok2, t0, t1, _⟩ eu hN2 hB2 => ?_⟩
  · rw [List.length_append]; omega
  have g2 := gcj.trans g2
  
  obtain ⟨hg1, hg2, hg3, hg4⟩ := hg
  have es : s.signs = u.signs := es.trans eu.symm
  have hN1 := hN1.mono g2
  have hB1 := hB1.mono g2
  have hS2 : SqL K H2 a (ns.map V.int) := (g01.trans g2).seq hS
  have sh1 := short_of ok1
  have lens : Lens s := ⟨Nat.le_trans ok1.lb (by decide), Nat.le_trans ok1.ls (by decide), Nat.le_trans ok1.le (by decide)⟩
  have hone : ∀ t ∈ s.steps, t.2.1.length ≤ 1 := fun t ht => by
    obtain ⟨c, _, e⟩ := (ok1.ms t ht).2.2.1
    rw [e, one_len]; exact Nat.le_refl _
  refine ⟨_, rfl, _, rfl, a, ns, g, 5, rfl, hS2, hg1, by omega, by decide, by decide, fun x1 hx1 => ?_⟩
  refine ⟨_, rfl, _, rfl, v1, s, pb, ps, pe, a, ns, 960, 5, rfl, hN1.v, lens, sh1, hS2, by decide, by decide, hone, fun x2 H6 hx2 g6 => ?_⟩
  refine ⟨szl (by simp), fun pl hpl => ⟨pl, rfl, ⟨[V.str x1, V.str x2], SqL.of upd_same⟩, ?_⟩⟩
  have gl := same_new hpl (.lst [V.str x1, V.str x2])
  have el := upd_same (H := H6) (a := pl) (o := .lst [V.str x1, V.str x2])
  have g16 := g6.trans gl
  refine for_list (xs := [V.str x1, V.str x2]) (fun i σ H' => Same (upd H6 pl (.lst [V.str x1, V.str x2])) H' ∧ ∃ x4, σ = [some (.ref a), some (.str g), some v1, some v2, x4]) ⟨Same.refl _, none, rfl⟩ (fun i σ H' _ z => SqL.of (z.1 _ _ el)) ?_ ?_
  · rintro i y σ H8 hy ⟨g8, x4, rfl⟩
    obtain ⟨x, rfl, hx⟩ : ∃ x : Str, y = .str x ∧ x.length ≤ 50 := by
      rcases List.mem_cons.mp (List.mem_of_getElem? hy) with rfl | z
      · exact ⟨x1, rfl, hx1⟩
      · rw [List.mem_singleton.mp z]; exact ⟨x2, rfl, hx2⟩
    have g18 := g16.trans g8
    exact ⟨_, rfl, _, rfl, _, rfl, v1, s, pb, ps, pe, v2, u, qb, qs, qe, x, rfl, hN1.mono g18, hN2.mono g18, hB1.mono g18, hB2.mono g18, ok1, ok2, es, r0, r1, t0, t1, hx, fun H9 g9 => ⟨_, rfl, iteF ⟨g8.trans g9, _, rfl⟩⟩⟩
  rintro σ H8 ⟨g8, x4, rfl⟩
  exact q _

end
theorem len_1 {α : Type} : ∀ {us : List α} (_ : us.length = 1), ∃ u0, us = [u0]
  | [u0], _ => ⟨u0, rfl⟩
theorem len_2 {α : Type} : ∀ {us : List α} (_ : us.length = 2), ∃ u0 u1, us = [u0, u1]
  | [u0, u1], _ => ⟨u0, u1, rfl⟩
theorem len_3 {α : Type} : ∀ {us : List α} (_ : us.length = 3), ∃ u0 u1 u2, us = [u0, u1, u2]
  | [u0, u1, u2], _ => ⟨u0, u1, u2, rfl⟩
theorem len_4 {α : Type} : ∀ {us : List α} (_ : us.length = 4), ∃ u0 u1 u2 u3, us = [u0, u1, u2, u3]
  | [u0, u1, u2, u3], _ => ⟨u0, u1, u2, u3, rfl⟩
theorem all_mk {l : PySem.W.OpenLaw} {w : World} {K : PySem.W.Frag} {h : Heap} {mg : Str → Option Value} {fa f0 f1 f2 f3 f4 f5 f6 f7 f8 f9 f10 f11 f12 f13 f14 f15 f16 f17 f18 f19 f20 c_OtherSigns c_TooMany : Addr} (X : K.In h) (G : h.Ns mainGlobals mg) (hfa : mg "law" = some (.ref fa))
    {od0 an0 od1 an1 od2 an2 od3 an3 od4 an4 od5 an5 od6 an6 od7 an7 od8 an8 od9 an9 od10 an10 od11 an11 od12 an12 od13 an13 od14 an14 od15 an15 od16 an16 od17 an17 od18 an18 od19 an19 od20 an20 : Option Addr} {sl0 sl1 sl2 sl3 sl4 sl5 sl6 sl7 sl8 sl9 sl10 sl11 sl12 sl13 sl14 sl15 sl16 sl17 sl18 sl19 sl20 : Array (Option Value)} {oc0 kV0 dc0 pm0 cd0 ct0 oc1 kV1 dc1 pm1 cd1 ct1 oc2 kV2 dc2 pm2 cd2 ct2 oc3 kV3 dc3 pm3 cd3 ct3 oc4 kV4 dc4 pm4 cd4 ct4 oc5 kV5 dc5 pm5 cd5 ct5 oc6 kV6 dc6 pm6 cd6 ct6 oc7 kV7 dc7 pm7 cd7 ct7 oc8 kV8 dc8 pm8 cd8 ct8 oc9 kV9 dc9 pm9 cd9 ct9 oc10 kV10 dc10 pm10 cd10 ct10 oc11 kV11 dc11 pm11 cd11 ct11 oc12 kV12 dc12 pm12 cd12 ct12 oc13 kV13 dc13 pm13 cd13 ct13 oc14 kV14 dc14 pm14 cd14 ct14 oc15 kV15 dc15 pm15 cd15 ct15 oc16 kV16 dc16 pm16 cd16 ct16 oc17 kV17 dc17 pm17 cd17 ct17 oc18 kV18 dc18 pm18 cd18 ct18 oc19 kV19 dc19 pm19 cd19 ct19 oc20 kV20 dc20 pm20 cd20 ct20 : Value}
    (a0 : PySem.W.nsIn K mainGlobals "refuse_other_signs" = some (some (.ref f0))) (l0 : K.lookup f0 = some ⟨oc0, od0, .func (PySem.W.fnOf "refuse_other_signs" "refuse_other_signs" (defArgs s_refuse_other_signs) (defBody s_refuse_other_signs) (defScope s_refuse_other_signs) .none kV0 dc0 pm0 an0 cd0 ct0), sl0⟩) (c0 : PySem.W.codeIn K cd0 "refuse_other_signs" = true) (k0 : PySem.W.keepIn K (.ref f0) = true)
    (a1 : PySem.W.nsIn K mainGlobals "refuse_many_pairs" = some (some (.ref f1))) (l1 : K.lookup f1 = some ⟨oc1, od1, .func (PySem.W.fnOf "refuse_many_pairs" "refuse_many_pairs" (defArgs s_refuse_many_pairs) (defBody s_refuse_many_pairs) (defScope s_refuse_many_pairs) .none kV1 dc1 pm1 an1 cd1 ct1), sl1⟩) (c1 : PySem.W.codeIn K cd1 "refuse_many_pairs" = true) (k1 : PySem.W.keepIn K (.ref f1) = true)
    (a2 : PySem.W.nsIn K mainGlobals "each_once" = some (some (.ref f2))) (l2 : K.lookup f2 = some ⟨oc2, od2, .func (PySem.W.fnOf "each_once" "each_once" (defArgs s_each_once) (defBody s_each_once) (defScope s_each_once) .none kV2 dc2 pm2 an2 cd2 ct2), sl2⟩) (c2 : PySem.W.codeIn K cd2 "each_once" = true) (k2 : PySem.W.keepIn K (.ref f2) = true)
    (a3 : PySem.W.nsIn K mainGlobals "turned" = some (some (.ref f3))) (l3 : K.lookup f3 = some ⟨oc3, od3, .func (PySem.W.fnOf "turned" "turned" (defArgs s_turned) (defBody s_turned) (defScope s_turned) .none kV3 dc3 pm3 an3 cd3 ct3), sl3⟩) (c3 : PySem.W.codeIn K cd3 "turned" = true) (k3 : PySem.W.keepIn K (.ref f3) = true)
    (a4 : PySem.W.nsIn K mainGlobals "mirrored" = some (some (.ref f4))) (l4 : K.lookup f4 = some ⟨oc4, od4, .func (PySem.W.fnOf "mirrored" "mirrored" (defArgs s_mirrored) (defBody s_mirrored) (defScope s_mirrored) .none kV4 dc4 pm4 an4 cd4 ct4), sl4⟩) (c4 : PySem.W.codeIn K cd4 "mirrored" = true) (k4 : PySem.W.keepIn K (.ref f4) = true)
    (a5 : PySem.W.nsIn K mainGlobals "either_of" = some (some (.ref f5))) (l5 : K.lookup f5 = some ⟨oc5, od5, .func (PySem.W.fnOf "either_of" "either_of" (defArgs s_either_of) (defBody s_either_of) (defScope s_either_of) .none kV5 dc5 pm5 an5 cd5 ct5), sl5⟩) (c5 : PySem.W.codeIn K cd5 "either_of" = true) (k5 : PySem.W.keepIn K (.ref f5) = true)
    (a6 : PySem.W.nsIn K mainGlobals "kept_marks" = some (some (.ref f6))) (l6 : K.lookup f6 = some ⟨oc6, od6, .func (PySem.W.fnOf "kept_marks" "kept_marks" (defArgs s_kept_marks) (defBody s_kept_marks) (defScope s_kept_marks) .none kV6 dc6 pm6 an6 cd6 ct6), sl6⟩) (c6 : PySem.W.codeIn K cd6 "kept_marks" = true) (k6 : PySem.W.keepIn K (.ref f6) = true)
    (a7 : PySem.W.nsIn K mainGlobals "moves_by_sign" = some (some (.ref f7))) (l7 : K.lookup f7 = some ⟨oc7, od7, .func (PySem.W.fnOf "moves_by_sign" "moves_by_sign" (defArgs s_moves_by_sign) (defBody s_moves_by_sign) (defScope s_moves_by_sign) .none kV7 dc7 pm7 an7 cd7 ct7), sl7⟩) (c7 : PySem.W.codeIn K cd7 "moves_by_sign" = true) (k7 : PySem.W.keepIn K (.ref f7) = true)
    (a8 : PySem.W.nsIn K mainGlobals "kept_steps" = some (some (.ref f8))) (l8 : K.lookup f8 = some ⟨oc8, od8, .func (PySem.W.fnOf "kept_steps" "kept_steps" (defArgs s_kept_steps) (defBody s_kept_steps) (defScope s_kept_steps) .none kV8 dc8 pm8 an8 cd8 ct8), sl8⟩) (c8 : PySem.W.codeIn K cd8 "kept_steps" = true) (k8 : PySem.W.keepIn K (.ref f8) = true)
    (a9 : PySem.W.nsIn K mainGlobals "kept_to" = some (some (.ref f9))) (l9 : K.lookup f9 = some ⟨oc9, od9, .func (PySem.W.fnOf "kept_to" "kept_to" (defArgs s_kept_to) (defBody s_kept_to) (defScope s_kept_to) .none kV9 dc9 pm9 an9 cd9 ct9), sl9⟩) (c9 : PySem.W.codeIn K cd9 "kept_to" = true) (k9 : PySem.W.keepIn K (.ref f9) = true)
    (a10 : PySem.W.nsIn K mainGlobals "_law_cell_at" = some (some (.ref f10))) (l10 : K.lookup f10 = some ⟨oc10, od10, .func (PySem.W.fnOf "_law_cell_at" "_law_cell_at" (defArgs s_law_cell_at) (defBody s_law_cell_at) (defScope s_law_cell_at) .none kV10 dc10 pm10 an10 cd10 ct10), sl10⟩) (c10 : PySem.W.codeIn K cd10 "_law_cell_at" = true) (k10 : PySem.W.keepIn K (.ref f10) = true)
    (a11 : PySem.W.nsIn K mainGlobals "_law_mixed" = some (some (.ref f11))) (l11 : K.lookup f11 = some ⟨oc11, od11, .func (PySem.W.fnOf "_law_mixed" "_law_mixed" (defArgs s_law_mixed) (defBody s_law_mixed) (defScope s_law_mixed) .none kV11 dc11 pm11 an11 cd11 ct11), sl11⟩) (c11 : PySem.W.codeIn K cd11 "_law_mixed" = true) (k11 : PySem.W.keepIn K (.ref f11) = true)
    (a12 : PySem.W.nsIn K mainGlobals "_law_word" = some (some (.ref f12))) (l12 : K.lookup f12 = some ⟨oc12, od12, .func (PySem.W.fnOf "_law_word" "_law_word" (defArgs s_law_word) (defBody s_law_word) (defScope s_law_word) .none kV12 dc12 pm12 an12 cd12 ct12), sl12⟩) (c12 : PySem.W.codeIn K cd12 "_law_word" = true) (k12 : PySem.W.keepIn K (.ref f12) = true)
    (a13 : PySem.W.nsIn K mainGlobals "_law_signs" = some (some (.ref f13))) (l13 : K.lookup f13 = some ⟨oc13, od13, .func (PySem.W.fnOf "_law_signs" "_law_signs" (defArgs s_law_signs) (defBody s_law_signs) (defScope s_law_signs) .none kV13 dc13 pm13 an13 cd13 ct13), sl13⟩) (c13 : PySem.W.codeIn K cd13 "_law_signs" = true) (k13 : PySem.W.keepIn K (.ref f13) = true)
    (a14 : PySem.W.nsIn K mainGlobals "_law_rest" = some (some (.ref f14))) (l14 : K.lookup f14 = some ⟨oc14, od14, .func (PySem.W.fnOf "_law_rest" "_law_rest" (defArgs s_law_rest) (defBody s_law_rest) (defScope s_law_rest) .none kV14 dc14 pm14 an14 cd14 ct14), sl14⟩) (c14 : PySem.W.codeIn K cd14 "_law_rest" = true) (k14 : PySem.W.keepIn K (.ref f14) = true)
    (a15 : PySem.W.nsIn K mainGlobals "_law_choices" = some (some (.ref f15))) (l15 : K.lookup f15 = some ⟨oc15, od15, .func (PySem.W.fnOf "_law_choices" "_law_choices" (defArgs s_law_choices) (defBody s_law_choices) (defScope s_law_choices) .none kV15 dc15 pm15 an15 cd15 ct15), sl15⟩) (c15 : PySem.W.codeIn K cd15 "_law_choices" = true) (k15 : PySem.W.keepIn K (.ref f15) = true)
    (a16 : PySem.W.nsIn K mainGlobals "_law_text" = some (some (.ref f16))) (l16 : K.lookup f16 = some ⟨oc16, od16, .func (PySem.W.fnOf "_law_text" "_law_text" (defArgs s_law_text) (defBody s_law_text) (defScope s_law_text) .none kV16 dc16 pm16 an16 cd16 ct16), sl16⟩) (c16 : PySem.W.codeIn K cd16 "_law_text" = true) (k16 : PySem.W.keepIn K (.ref f16) = true)
    (a17 : PySem.W.nsIn K mainGlobals "_law_led" = some (some (.ref f17))) (l17 : K.lookup f17 = some ⟨oc17, od17, .func (PySem.W.fnOf "_law_led" "_law_led" (defArgs s_law_led) (defBody s_law_led) (defScope s_law_led) .none kV17 dc17 pm17 an17 cd17 ct17), sl17⟩) (c17 : PySem.W.codeIn K cd17 "_law_led" = true) (k17 : PySem.W.keepIn K (.ref f17) = true)
    (a18 : PySem.W.nsIn K mainGlobals "_law_words" = some (some (.ref f18))) (l18 : K.lookup f18 = some ⟨oc18, od18, .func (PySem.W.fnOf "_law_words" "_law_words" (defArgs s_law_words) (defBody s_law_words) (defScope s_law_words) .none kV18 dc18 pm18 an18 cd18 ct18), sl18⟩) (c18 : PySem.W.codeIn K cd18 "_law_words" = true) (k18 : PySem.W.keepIn K (.ref f18) = true)
    (a19 : PySem.W.nsIn K mainGlobals "_law_good" = some (some (.ref f19))) (l19 : K.lookup f19 = some ⟨oc19, od19, .func (PySem.W.fnOf "_law_good" "_law_good" (defArgs s_law_good) (defBody s_law_good) (defScope s_law_good) .none kV19 dc19 pm19 an19 cd19 ct19), sl19⟩) (c19 : PySem.W.codeIn K cd19 "_law_good" = true) (k19 : PySem.W.keepIn K (.ref f19) = true)
    (a20 : PySem.W.nsIn K mainGlobals "law" = some (some (.ref f20))) (l20 : K.lookup f20 = some ⟨oc20, od20, .func (PySem.W.fnOf "law" "law" (defArgs s_law) (defBody s_law) (defScope s_law) .none kV20 dc20 pm20 an20 cd20 ct20), sl20⟩) (c20 : PySem.W.codeIn K cd20 "law" = true) (k20 : PySem.W.keepIn K (.ref f20) = true)
    (z0 : PySem.W.nsIn K mainGlobals "len" = some none)
    (z1 : PySem.W.nsIn K mainGlobals "list" = some none)
    (z2 : PySem.W.nsIn K mainGlobals "min" = some none)
    (z3 : PySem.W.nsIn K mainGlobals "range" = some none)
    (z4 : PySem.W.nsIn K mainGlobals "sorted" = some none)
    {gt0 : Tok} (g0 : PySem.W.nsIn K mainGlobals "BEGINS" = some (some (.int 2 gt0)))
    {gt1 : Tok} (g1 : PySem.W.nsIn K mainGlobals "ENDS" = some (some (.int 4 gt1)))
    {gt2 : Tok} (g2 : PySem.W.nsIn K mainGlobals "MOST_ROOMS" = some (some (.int 200 gt2)))
    {gt3 : Tok} (g3 : PySem.W.nsIn K mainGlobals "ROOMS" = some (some (.int 1 gt3)))
    {gt4 : Tok} (g4 : PySem.W.nsIn K mainGlobals "SIGNS" = some (some (.int 0 gt4)))
    {gt5 : Tok} (g5 : PySem.W.nsIn K mainGlobals "STEPS" = some (some (.int 3 gt5)))
    (x0 : PySem.W.nsIn K mainGlobals "OtherSigns" = some (some (.ref c_OtherSigns)))
    (x1 : PySem.W.nsIn K mainGlobals "TooMany" = some (some (.ref c_TooMany)))
    (x2 : PySem.W.excIn K c_OtherSigns bmV "ValueError.__new__" = true)
    (x3 : PySem.W.findIn K (.ref c_OtherSigns) "__getattribute__" = some (some (.builtin "BaseException.__getattribute__")))
    (x4 : PySem.W.findIn K (.ref c_OtherSigns) "__getattr__" = some none)
    (x5 : PySem.W.mroIn K c_OtherSigns (.type "BaseException") = some true)
    (x6 : (PySem.W.clsIn K c_OtherSigns).isSome = true)
    (x7 : PySem.W.findIn K (.ref c_OtherSigns) "__class__" = some (some (.builtin "object.__class__")))
    (x8 : PySem.W.specialIn K (.builtin "object.__class__") "__get__" = some (some (.builtin "getset_descriptor.__get__")))
    (x9 : PySem.W.takesIn K (.builtin "object.__class__") = some true)
    (x10 : PySem.W.mroIn K c_OtherSigns (.type "object") = some true)
    (x11 : PySem.W.excIn K c_TooMany bmV "ValueError.__new__" = true)
    (x12 : PySem.W.findIn K (.ref c_TooMany) "__getattribute__" = some (some (.builtin "BaseException.__getattribute__")))
    (x13 : PySem.W.findIn K (.ref c_TooMany) "__getattr__" = some none)
    (x14 : PySem.W.mroIn K c_TooMany (.type "BaseException") = some true)
    (x15 : (PySem.W.clsIn K c_TooMany).isSome = true)
    (x16 : PySem.W.findIn K (.ref c_TooMany) "__class__" = some (some (.builtin "object.__class__")))
    (x17 : PySem.W.specialIn K (.builtin "object.__class__") "__get__" = some (some (.builtin "getset_descriptor.__get__")))
    (x18 : PySem.W.takesIn K (.builtin "object.__class__") = some true)
    (x19 : PySem.W.mroIn K c_TooMany (.type "object") = some true) :
    ∃ fd : FuncData, (∀ (s : Shared) (v : Value), BindsTo s fd ⟨[v], []⟩ [("_law_script", v)]) ∧ ∀ base : Heap, K.In base → base.Ns mainGlobals mg → FnOk l.prog w K mg base CX0 6 fa fd ["_law_script"] (spLaw K) := by
  have e := hfa.symm.trans (PySem.W.mg_of X G a20)
  cases e
  have B : Bi mg := ⟨PySem.W.mg_none_of X G z0, PySem.W.mg_none_of X G z1, PySem.W.mg_none_of X G z2, PySem.W.mg_none_of X G z3, PySem.W.mg_none_of X G z4, ⟨_, PySem.W.mg_of X G g0⟩, ⟨_, PySem.W.mg_of X G g1⟩, ⟨_, PySem.W.mg_of X G g2⟩, ⟨_, PySem.W.mg_of X G g3⟩, ⟨_, PySem.W.mg_of X G g4⟩, ⟨_, PySem.W.mg_of X G g5⟩⟩
  have nm_OtherSigns := PySem.W.mg_of X G x0
  have nm_TooMany := PySem.W.mg_of X G x1
  have own_OtherSigns : OwnX K mg "OtherSigns" c_OtherSigns := ⟨nm_OtherSigns, x2⟩
  have xc_OtherSigns : XCls K c_OtherSigns := ⟨x3, x4, x5, x6, x7, x8, x9, x10⟩
  have own_TooMany : OwnX K mg "TooMany" c_TooMany := ⟨nm_TooMany, x11⟩
  have xc_TooMany : XCls K c_TooMany := ⟨x12, x13, x14, x15, x16, x17, x18, x19⟩
  have XB : Xb K mg c_OtherSigns c_TooMany := ⟨nm_OtherSigns, nm_TooMany, own_OtherSigns, xc_OtherSigns, own_TooMany, xc_TooMany⟩
  have F0 := fun_mk (st := s_refuse_other_signs) l0 c0 k0
  have F1 := fun_mk (st := s_refuse_many_pairs) l1 c1 k1
  have F2 := fun_mk (st := s_each_once) l2 c2 k2
  have F3 := fun_mk (st := s_turned) l3 c3 k3
  have F4 := fun_mk (st := s_mirrored) l4 c4 k4
  have F5 := fun_mk (st := s_either_of) l5 c5 k5
  have F6 := fun_mk (st := s_kept_marks) l6 c6 k6
  have F7 := fun_mk (st := s_moves_by_sign) l7 c7 k7
  have F8 := fun_mk (st := s_kept_steps) l8 c8 k8
  have F9 := fun_mk (st := s_kept_to) l9 c9 k9
  have F10 := fun_mk (st := s_law_cell_at) l10 c10 k10
  have F11 := fun_mk (st := s_law_mixed) l11 c11 k11
  have F12 := fun_mk (st := s_law_word) l12 c12 k12
  have F13 := fun_mk (st := s_law_signs) l13 c13 k13
  have F14 := fun_mk (st := s_law_rest) l14 c14 k14
  have F15 := fun_mk (st := s_law_choices) l15 c15 k15
  have F16 := fun_mk (st := s_law_text) l16 c16 k16
  have F17 := fun_mk (st := s_law_led) l17 c17 k17
  have F18 := fun_mk (st := s_law_words) l18 c18 k18
  have F19 := fun_mk (st := s_law_good) l19 c19 k19
  have F20 := fun_mk (st := s_law) l20 c20 k20
  refine ⟨PySem.W.fnOf "law" "law" (defArgs s_law) (defBody s_law) (defScope s_law) .none kV20 dc20 pm20 an20 cd20 ct20, fun s v => .of_eq rfl, fun base _ _ => ?_⟩
  have C_refuse_other_signs : Cal1 l.prog w K mg base "refuse_other_signs" ["one", "other"] 1 (spOther K c_OtherSigns) := ⟨_, _, ok_refuse_other_signs (P := l.prog) (w := w) (base := base) B XB  F0, F0.binds (ps := ["one", "other"]) (fun _ _ _ _ _ _ us hl => by obtain ⟨u0, u1, rfl⟩ := len_2 hl; rfl), F0.kp, PySem.W.mg_of X G a0⟩
  have C_refuse_many_pairs : Cal1 l.prog w K mg base "refuse_many_pairs" ["one", "other"] 1 (spPairsN K c_TooMany) := ⟨_, _, ok_refuse_many_pairs (P := l.prog) (w := w) (base := base) B XB  F1, F1.binds (ps := ["one", "other"]) (fun _ _ _ _ _ _ us hl => by obtain ⟨u0, u1, rfl⟩ := len_2 hl; rfl), F1.kp, PySem.W.mg_of X G a1⟩
  have C_each_once : Cal l.prog w K mg base "each_once" ["parts"] 1 (spOnce K) := ⟨_, _, ok_each_once (P := l.prog) (w := w) (base := base) B XB  F2, F2.binds (ps := ["parts"]) (fun _ _ _ _ _ _ us hl => by obtain ⟨u0, rfl⟩ := len_1 hl; rfl), F2.kp, PySem.W.mg_of X G a2⟩
  have C_turned : Cal l.prog w K mg base "turned" ["word"] 1 (spTurn) := ⟨_, _, ok_turned (P := l.prog) (w := w) (base := base) B XB  F3, F3.binds (ps := ["word"]) (fun _ _ _ _ _ _ us hl => by obtain ⟨u0, rfl⟩ := len_1 hl; rfl), F3.kp, PySem.W.mg_of X G a3⟩
  have C_mirrored : Cal l.prog w K mg base "mirrored" ["scribe"] 2 (spMir K) := ⟨_, _, ok_mirrored (P := l.prog) (w := w) (base := base) B XB C_turned F4, F4.binds (ps := ["scribe"]) (fun _ _ _ _ _ _ us hl => by obtain ⟨u0, rfl⟩ := len_1 hl; rfl), F4.kp, PySem.W.mg_of X G a4⟩
  have C_either_of : Cal1 l.prog w K mg base "either_of" ["one", "other"] 2 (spEither K c_OtherSigns c_TooMany) := ⟨_, _, ok_either_of (P := l.prog) (w := w) (base := base) B XB C_refuse_other_signs F5, F5.binds (ps := ["one", "other"]) (fun _ _ _ _ _ _ us hl => by obtain ⟨u0, u1, rfl⟩ := len_2 hl; rfl), F5.kp, PySem.W.mg_of X G a5⟩
  have C_kept_marks : Cal l.prog w K mg base "kept_marks" ["marks", "others", "count"] 2 (spKeptM K) := ⟨_, _, ok_kept_marks (P := l.prog) (w := w) (base := base) B XB C_each_once F6, F6.binds (ps := ["marks", "others", "count"]) (fun _ _ _ _ _ _ us hl => by obtain ⟨u0, u1, u2, rfl⟩ := len_3 hl; rfl), F6.kp, PySem.W.mg_of X G a6⟩
  have C_moves_by_sign : Cal l.prog w K mg base "moves_by_sign" ["steps"] 2 (spMoves K) := ⟨_, _, ok_moves_by_sign (P := l.prog) (w := w) (base := base) B XB C_each_once F7, F7.binds (ps := ["steps"]) (fun _ _ _ _ _ _ us hl => by obtain ⟨u0, rfl⟩ := len_1 hl; rfl), F7.kp, PySem.W.mg_of X G a7⟩
  have C_kept_steps : Cal l.prog w K mg base "kept_steps" ["steps", "others", "count"] 3 (spKeptS K) := ⟨_, _, ok_kept_steps (P := l.prog) (w := w) (base := base) B XB C_moves_by_sign F8, F8.binds (ps := ["steps", "others", "count"]) (fun _ _ _ _ _ _ us hl => by obtain ⟨u0, u1, u2, rfl⟩ := len_3 hl; rfl), F8.kp, PySem.W.mg_of X G a8⟩
  have C_kept_to : Cal1 l.prog w K mg base "kept_to" ["scribe", "other"] 4 (spKept K c_OtherSigns c_TooMany) := ⟨_, _, ok_kept_to (P := l.prog) (w := w) (base := base) B XB C_refuse_other_signs C_refuse_many_pairs C_kept_marks C_kept_steps F9, F9.binds (ps := ["scribe", "other"]) (fun _ _ _ _ _ _ us hl => by obtain ⟨u0, u1, rfl⟩ := len_2 hl; rfl), F9.kp, PySem.W.mg_of X G a9⟩
  have C_law_cell_at : Cal l.prog w K mg base "_law_cell_at" ["_law_script", "_law_k"] 1 (spCell K) := ⟨_, _, ok_law_cell_at (P := l.prog) (w := w) (base := base) B XB  F10, F10.binds (ps := ["_law_script", "_law_k"]) (fun _ _ _ _ _ _ us hl => by obtain ⟨u0, u1, rfl⟩ := len_2 hl; rfl), F10.kp, PySem.W.mg_of X G a10⟩
  have C_law_mixed : Cal l.prog w K mg base "_law_mixed" ["_law_cell", "_law_k"] 1 (spMixed) := ⟨_, _, ok_law_mixed (P := l.prog) (w := w) (base := base) B XB  F11, F11.binds (ps := ["_law_cell", "_law_k"]) (fun _ _ _ _ _ _ us hl => by obtain ⟨u0, u1, rfl⟩ := len_2 hl; rfl), F11.kp, PySem.W.mg_of X G a11⟩
  have C_law_word : Cal l.prog w K mg base "_law_word" ["_law_rest_here"] 1 (spWord) := ⟨_, _, ok_law_word (P := l.prog) (w := w) (base := base) B XB  F12, F12.binds (ps := ["_law_rest_here"]) (fun _ _ _ _ _ _ us hl => by obtain ⟨u0, rfl⟩ := len_1 hl; rfl), F12.kp, PySem.W.mg_of X G a12⟩
  have C_law_signs : Cal l.prog w K mg base "_law_signs" ["_law_number"] 1 (spSigns2) := ⟨_, _, ok_law_signs (P := l.prog) (w := w) (base := base) B XB  F13, F13.binds (ps := ["_law_number"]) (fun _ _ _ _ _ _ us hl => by obtain ⟨u0, rfl⟩ := len_1 hl; rfl), F13.kp, PySem.W.mg_of X G a13⟩
  have C_law_rest : Cal l.prog w K mg base "_law_rest" ["_law_script", "_law_k", "_law_salt"] 2 (spRest K) := ⟨_, _, ok_law_rest (P := l.prog) (w := w) (base := base) B XB C_law_cell_at C_law_mixed F14, F14.binds (ps := ["_law_script", "_law_k", "_law_salt"]) (fun _ _ _ _ _ _ us hl => by obtain ⟨u0, u1, u2, rfl⟩ := len_3 hl; rfl), F14.kp, PySem.W.mg_of X G a14⟩
  have C_law_choices : Cal l.prog w K mg base "_law_choices" ["_law_script", "_law_salt", "_law_most", "_law_signs_here"] 3 (spDraw4H K) := ⟨_, _, ok_law_choices (P := l.prog) (w := w) (base := base) B XB C_law_rest C_law_word F15, F15.binds (ps := ["_law_script", "_law_salt", "_law_most", "_law_signs_here"]) (fun _ _ _ _ _ _ us hl => by obtain ⟨u0, u1, u2, u3, rfl⟩ := len_4 hl; rfl), F15.kp, PySem.W.mg_of X G a15⟩
  have C_law_text : Cal l.prog w K mg base "_law_text" ["_law_script", "_law_signs_here", "_law_most"] 2 (spText5 K) := ⟨_, _, ok_law_text (P := l.prog) (w := w) (base := base) B XB C_law_mixed C_law_cell_at F16, F16.binds (ps := ["_law_script", "_law_signs_here", "_law_most"]) (fun _ _ _ _ _ _ us hl => by obtain ⟨u0, u1, u2, rfl⟩ := len_3 hl; rfl), F16.kp, PySem.W.mg_of X G a16⟩
  have C_law_led : Cal l.prog w K mg base "_law_led" ["_law_scribe", "_law_script", "_law_salt", "_law_most"] 2 (spLed K) := ⟨_, _, ok_law_led (P := l.prog) (w := w) (base := base) B XB C_law_mixed C_law_cell_at F17, F17.binds (ps := ["_law_scribe", "_law_script", "_law_salt", "_law_most"]) (fun _ _ _ _ _ _ us hl => by obtain ⟨u0, u1, u2, u3, rfl⟩ := len_4 hl; rfl), F17.kp, PySem.W.mg_of X G a17⟩
  have C_law_words : Cal l.prog w K mg base "_law_words" ["_law_scribe", "_law_text_here"] 1 (spWords K) := ⟨_, _, ok_law_words (P := l.prog) (w := w) (base := base) B XB  F18, F18.binds (ps := ["_law_scribe", "_law_text_here"]) (fun _ _ _ _ _ _ us hl => by obtain ⟨u0, u1, rfl⟩ := len_2 hl; rfl), F18.kp, PySem.W.mg_of X G a18⟩
  have C_law_good : Cal l.prog w K mg base "_law_good" ["_law_one", "_law_other", "_law_text_here"] 5 (spGood K) := ⟨_, _, ok_law_good (P := l.prog) (w := w) (base := base) B XB C_law_words C_mirrored C_either_of C_kept_to F19, F19.binds (ps := ["_law_one", "_law_other", "_law_text_here"]) (fun _ _ _ _ _ _ us hl => by obtain ⟨u0, u1, u2, rfl⟩ := len_3 hl; rfl), F19.kp, PySem.W.mg_of X G a19⟩
  exact ok_law (P := l.prog) (w := w) (base := base) B XB C_law_signs C_law_choices C_law_mixed C_law_text C_law_led C_law_cell_at C_law_good F20
theorem walk {l : PySem.W.OpenLaw} {q : Program} {loose : List Str} {XP : (Str → Option Value) → Heap → Prop} {YP : World → Heap → Prop} {d : DefRec} {K : Params → PySem.W.Frag} (hn : l.most = some 63) (hdf : d.params.defaults = [])
    (hY : ∀ (w : World) (h : Heap), YP w h → (K w.params).In h)
    (F : ∀ (w : World) (mg : Str → Option Value) (fa : Addr) (h : Heap), (K w.params).In h → h.Ns mainGlobals mg → mg d.name = some (.ref fa) →
      ∃ fd : FuncData, (∀ (s : Shared) (u : Value), BindsTo s fd ⟨[u], []⟩ [("_law_script", u)]) ∧ ∀ base : Heap, (K w.params).In base → base.Ns mainGlobals mg → FnOk l.prog w (K w.params) mg base CX0 6 fa fd ["_law_script"] (spLaw (K w.params))) :
    PySem.W.WalkO q loose XP YP l.row.toRowW d [] (fun f vs => PySem.call f vs) :=
  L2.walk_of (n := 63) (k := 6) (x := "_law_script") (CX := fun _ => CX0) (sp := fun w => spLaw (K w.params)) hn (by decide) hdf ⟨rfl, by decide, by decide⟩ hY F (fun _ _ a ns hl _ hS => ⟨a, ns, rfl, hS, hl, fun _ => rfl⟩) fun _ _ _ _ _ z => z
end My
open PySem PySem.W PyProof.Rows
set_option maxRecDepth 100000 in
set_option maxHeartbeats 0 in
theorem PySem.Challenge.cw_earlyscribe_k69_whole_words_from_the_end_holds : PySem.Challenge.rw_earlyscribe_k69_whole_words_from_the_end.Holds := by
  w_on; o_law; k_head; (case hw => w_witness2)
  k_fill
  refine My.walk (l := PySem.Challenge.rw_earlyscribe_k69_whole_words_from_the_end) rfl rfl (fun w h Y => PySem.W.kIn_of Y) ?F
  case F =>
    intro w mg fa h KX G hmg
    refine' My.all_mk KX G hmg ?a0 ?l0 ?c0 ?k0 ?a1 ?l1 ?c1 ?k1 ?a2 ?l2 ?c2 ?k2 ?a3 ?l3 ?c3 ?k3 ?a4 ?l4 ?c4 ?k4 ?a5 ?l5 ?c5 ?k5 ?a6 ?l6 ?c6 ?k6 ?a7 ?l7 ?c7 ?k7 ?a8 ?l8 ?c8 ?k8 ?a9 ?l9 ?c9 ?k9 ?a10 ?l10 ?c10 ?k10 ?a11 ?l11 ?c11 ?k11 ?a12 ?l12 ?c12 ?k12 ?a13 ?l13 ?c13 ?k13 ?a14 ?l14 ?c14 ?k14 ?a15 ?l15 ?c15 ?k15 ?a16 ?l16 ?c16 ?k16 ?a17 ?l17 ?c17 ?k17 ?a18 ?l18 ?c18 ?k18 ?a19 ?l19 ?c19 ?k19 ?a20 ?l20 ?c20 ?k20 ?z0 ?z1 ?z2 ?z3 ?z4 ?gc0 ?gc1 ?gc2 ?gc3 ?gc4 ?gc5 ?xq0 ?xq1 ?xq2 ?xq3 ?xq4 ?xq5 ?xq6 ?xq7 ?xq8 ?xq9 ?xq10 ?xq11 ?xq12 ?xq13 ?xq14 ?xq15 ?xq16 ?xq17 ?xq18 ?xq19
    (case a0 => k_is); (case l0 => k_is); (case c0 => k_is); (case k0 => k_is)
    (case a1 => k_is); (case l1 => k_is); (case c1 => k_is); (case k1 => k_is)
    (case a2 => k_is); (case l2 => k_is); (case c2 => k_is); (case k2 => k_is)
    (case a3 => k_is); (case l3 => k_is); (case c3 => k_is); (case k3 => k_is)
    (case a4 => k_is); (case l4 => k_is); (case c4 => k_is); (case k4 => k_is)
    (case a5 => k_is); (case l5 => k_is); (case c5 => k_is); (case k5 => k_is)
    (case a6 => k_is); (case l6 => k_is); (case c6 => k_is); (case k6 => k_is)
    (case a7 => k_is); (case l7 => k_is); (case c7 => k_is); (case k7 => k_is)
    (case a8 => k_is); (case l8 => k_is); (case c8 => k_is); (case k8 => k_is)
    (case a9 => k_is); (case l9 => k_is); (case c9 => k_is); (case k9 => k_is)
    (case a10 => k_is); (case l10 => k_is); (case c10 => k_is); (case k10 => k_is)
    (case a11 => k_is); (case l11 => k_is); (case c11 => k_is); (case k11 => k_is)
    (case a12 => k_is); (case l12 => k_is); (case c12 => k_is); (case k12 => k_is)
    (case a13 => k_is); (case l13 => k_is); (case c13 => k_is); (case k13 => k_is)
    (case a14 => k_is); (case l14 => k_is); (case c14 => k_is); (case k14 => k_is)
    (case a15 => k_is); (case l15 => k_is); (case c15 => k_is); (case k15 => k_is)
    (case a16 => k_is); (case l16 => k_is); (case c16 => k_is); (case k16 => k_is)
    (case a17 => k_is); (case l17 => k_is); (case c17 => k_is); (case k17 => k_is)
    (case a18 => k_is); (case l18 => k_is); (case c18 => k_is); (case k18 => k_is)
    (case a19 => k_is); (case l19 => k_is); (case c19 => k_is); (case k19 => k_is)
    (case a20 => k_is); (case l20 => k_is); (case c20 => k_is); (case k20 => k_is)
    (case z0 => k_is)
    (case z1 => k_is)
    (case z2 => k_is)
    (case z3 => k_is)
    (case z4 => k_is)
    (case gc0 => k_is)
    (case gc1 => k_is)
    (case gc2 => k_is)
    (case gc3 => k_is)
    (case gc4 => k_is)
    (case gc5 => k_is)
    (case xq0 => first | k_is | rfl | kernel_rfl)
    (case xq1 => first | k_is | rfl | kernel_rfl)
    (case xq2 => first | k_is | rfl | kernel_rfl)
    (case xq3 => first | k_is | rfl | kernel_rfl)
    (case xq4 => first | k_is | rfl | kernel_rfl)
    (case xq5 => first | k_is | rfl | kernel_rfl)
    (case xq6 => first | k_is | rfl | kernel_rfl)
    (case xq7 => first | k_is | rfl | kernel_rfl)
    (case xq8 => first | k_is | rfl | kernel_rfl)
    (case xq9 => first | k_is | rfl | kernel_rfl)
    (case xq10 => first | k_is | rfl | kernel_rfl)
    (case xq11 => first | k_is | rfl | kernel_rfl)
    (case xq12 => first | k_is | rfl | kernel_rfl)
    (case xq13 => first | k_is | rfl | kernel_rfl)
    (case xq14 => first | k_is | rfl | kernel_rfl)
    (case xq15 => first | k_is | rfl | kernel_rfl)
    (case xq16 => first | k_is | rfl | kernel_rfl)
    (case xq17 => first | k_is | rfl | kernel_rfl)
    (case xq18 => first | k_is | rfl | kernel_rfl)
    (case xq19 => first | k_is | rfl | kernel_rfl)
