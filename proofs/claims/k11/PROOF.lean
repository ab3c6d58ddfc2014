import PyProof.Rows.All
import Wide.All
import OpenK.AllK
import Wide.FinOn
import Lean
import PyProof.EqAt
import PyProof.EqKinds
import PyProof.TupleCall
import PySem.Challenge.RW_earlyscribe_k11_what_is_a_scribe
set_option maxHeartbeats 4000000
set_option Elab.async false
set_option linter.all false
set_option maxRecDepth 100000
/-! THE HAND LAYER, for ints, bools, texts, own classes, LISTS and tuples (index, slices, in, append, pop ..), calls, loops. Paste it whole ahead of your own text; what your proof does not reach may be deleted. -/
namespace L2
open PySem PySem.Spec PyProof.Rows

abbrev Key := Sum Int Str
def keyIs : Key → Value → Bool
  | .inl k, v => Value.isInt k v
  | .inr x, v => Value.isStrOf x v
def keyH (w : World) : Key → Int
  | .inl k => hashInt k
  | .inr x => hashStr w x
theorem keyIs_shape : ∀ {k : Key} {v : Value}, keyIs k v = true → (∃ i t, k = Sum.inl i ∧ v = Value.int i t) ∨ (∃ x t, k = Sum.inr x ∧ v = Value.str x t)
  | .inl i, v, h => by
    obtain ⟨t, e⟩ := Value.isInt_shape (k := i) (v := v) h
    exact .inl ⟨i, t, rfl, e⟩
  | .inr x, v, h => by
    obtain ⟨t, e⟩ := Value.isStrOf_shape (x := x) (v := v) h
    exact .inr ⟨x, t, rfl, e⟩
theorem keyIs_int (i : Int) (t : Tok) : keyIs (.inl i) (.int i t) = true := by simp [keyIs, Value.isInt]
theorem keyIs_str (x : Str) (t : Tok) : keyIs (.inr x) (.str x t) = true := by simp [keyIs, Value.isStrOf]
theorem key_ll (a b : Int) : decide ((Sum.inl a : Key) = Sum.inl b) = (a == b) := by
  by_cases e : a = b
  · subst e; simp
  · have h : ¬ (Sum.inl a : Key) = Sum.inl b := fun q => e (Sum.inl.inj q)
    rw [decide_eq_false h]
    exact (beq_eq_false_iff_ne.mpr e).symm
theorem key_rr (a b : Str) : decide ((Sum.inr a : Key) = Sum.inr b) = decide (a = b) := by
  by_cases e : a = b
  · subst e; simp
  · have h : ¬ (Sum.inr a : Key) = Sum.inr b := fun q => e (Sum.inr.inj q)
    rw [decide_eq_false h, decide_eq_false e]
theorem key_lr (a : Int) (b : Str) : decide ((Sum.inl a : Key) = Sum.inr b) = false := decide_eq_false (fun q => nomatch q)
theorem key_rl (a : Str) (b : Int) : decide ((Sum.inr a : Key) = Sum.inl b) = false := decide_eq_false (fun q => nomatch q)

def mixKind (prog : Program) (w : World) : PySem.KeyKind prog w Key where
  is := keyIs
  hash := keyH w
  inj := fun v a b ha hb => by
    rcases keyIs_shape ha with ⟨i, t, rfl, rfl⟩ | ⟨x, t, rfl, rfl⟩
    · rcases keyIs_shape hb with ⟨j, u, rfl, e⟩ | ⟨y, u, rfl, e⟩
      · injection e with e1 _; rw [e1]
      · exact nomatch e
    · rcases keyIs_shape hb with ⟨j, u, rfl, e⟩ | ⟨y, u, rfl, e⟩
      · exact nomatch e
      · injection e with e1 _; rw [e1]
  byValue := fun k v h => by
    rcases keyIs_shape h with ⟨i, t, rfl, rfl⟩ | ⟨x, t, rfl, rfl⟩ <;> rfl
  pyHash := fun hv h => by
    rcases keyIs_shape hv with ⟨i, t, rfl, rfl⟩ | ⟨x, t, rfl, rfl⟩
    · exact wpAny_pyHash_int h
    · exact wpAny_pyHash_str h
  eqBool := fun hu hv h => by
    rcases keyIs_shape hu with ⟨i, t, rfl, rfl⟩ | ⟨x, t, rfl, rfl⟩
    · rcases keyIs_shape hv with ⟨j, u, rfl, rfl⟩ | ⟨y, u, rfl, rfl⟩
      · rw [key_ll] at h; exact wpAny_eqBool_int h
      · rw [key_lr] at h; exact SeqAt.EqAt.int_str i t y u _ _ _ _ h
    · rcases keyIs_shape hv with ⟨j, u, rfl, rfl⟩ | ⟨y, u, rfl, rfl⟩
      · rw [key_rl] at h; exact SeqAt.EqAt.str_int x t j u _ _ _ _ h
      · rw [key_rr] at h; exact wpAny_eqBool_str h
  «strs» := fun k x t v h => by
    rcases keyIs_shape h with ⟨i, u, rfl, e⟩ | ⟨y, u, rfl, e⟩
    · exact nomatch e
    · injection e with e1 _
      subst e1
      cases v <;> rfl

end L2

namespace L2
open PySem PySem.Spec PyProof.Rows

inductive V where
  | non | bl (b : Bool) | int (i : Int) | str (x : Str) | byt (b : Array UInt8) | flt (b : UInt64) | ref (a : Addr) | ty (n : String)
  deriving DecidableEq

def RelV : V → Value → Prop
  | .non, u => u = Value.none
  | .bl b, u => u = Value.bool b
  | .int i, u => ∃ t, u = Value.int i t
  | .str x, u => ∃ t, u = Value.str x t
  | .byt b, u => ∃ t, u = Value.bytes b t
  | .flt b, u => ∃ t, u = Value.float b t
  | .ref a, u => u = Value.ref a
  | .ty n, u => u = Value.type n

abbrev Vals : List V → List Value → Prop := Paired RelV
theorem Vals.length {xs : List V} {us : List Value} (r : Vals xs us) : xs.length = us.length := Paired.length r
theorem Vals.get : ∀ {xs : List V} {us : List Value} {i : Nat} {x : V}, Vals xs us → xs[i]? = some x → ∃ u, us[i]? = some u ∧ RelV x u
  | _, _, _, _, .nil, e => by simp at e
  | _, _, 0, _, .cons r _, e => by simp at e; subst e; exact ⟨_, rfl, r⟩
  | _, _, i + 1, x, .cons _ t, e => by
    obtain ⟨u, h1, h2⟩ := Vals.get (i := i) (x := x) t (by simpa using e)
    exact ⟨u, by simpa using h1, h2⟩
theorem Vals.set {x : V} {u : Value} (r : RelV x u) : ∀ {xs : List V} {us : List Value} (i : Nat), Vals xs us → Vals (xs.set i x) (us.set i u)
  | _, _, _, .nil => .nil
  | _, _, 0, .cons _ t => .cons r t
  | _, _, i + 1, .cons q t => .cons q (Vals.set r i t)
theorem Vals.append : ∀ {xs ys : List V} {us ws : List Value}, Vals xs us → Vals ys ws → Vals (xs ++ ys) (us ++ ws)
  | _, _, _, _, .nil, s => s
  | _, _, _, _, .cons r t, s => .cons r (Vals.append t s)
theorem Vals.take : ∀ {xs : List V} {us : List Value} (n : Nat), Vals xs us → Vals (xs.take n) (us.take n)
  | _, _, 0, _ => .nil
  | _, _, _ + 1, .nil => .nil
  | _, _, n + 1, .cons r t => .cons r (Vals.take n t)
theorem Vals.drop : ∀ {xs : List V} {us : List Value} (n : Nat), Vals xs us → Vals (xs.drop n) (us.drop n)
  | _, _, 0, r => r
  | _, _, _ + 1, .nil => .nil
  | _, _, n + 1, .cons _ t => Vals.drop n t
def RelO : Option V → Option Value → Prop
  | some v, some u => RelV v u
  | none, none => True
  | _, _ => False
def KV {κ : Type} : List (κ × V) → List (κ × Value) → Prop := Paired fun (p : κ × V) (q : κ × Value) => p.1 = q.1 ∧ RelV p.2 q.2

def kV : Key → V
  | .inl i => .int i
  | .inr x => .str x

inductive HO where
  /-- a list -/
  | lst (xs : List V)
  /-- a tuple (never changes) -/
  | tup (xs : List V)
  /-- a dict whose keys are ints and texts; one whose keys are tuples of ints and texts (the empty one is both) -/
  | dK (kvs : List (Key × V)) | dT (kvs : List (List Key × V))
  /-- a set of ints: its members, its size -/
  | set (S : Int → Bool) (n : Nat)
  /-- an instance of the class at C, its dict at dx, its attributes -/
  | ins (C dx : Addr) (fs : List (Str × V))
  /-- the dict of the instance at x -/
  | own (x : Addr)
  /-- the dict of an exception -/
  | xd (fs : List (Str × V))
  /-- a bound method, f of x -/
  | met (f x : Addr)
  /-- a range object lo, lo + 1, .. below hi -/
  | rng (lo hi : Int)
  /-- a thing that is known to the object (the script; a dict while a loop walks it): read, never written while it is so -/
  | frz (o : Obj) (u : HO)
  /-- a code object's table -/
  | tbl (ps : Array Value)
  /-- any other thing, by what is true of its one object (a def of one's own: SetO a S n := HO.ext fun h => ..) -/
  | ext (φ : Heap → Prop)

abbrev Hp := Addr → Option HO
def upd (H : Hp) (a : Addr) (o : HO) : Hp := fun b => if b = a then some o else H b
theorem upd_same {H : Hp} {a : Addr} {o : HO} : upd H a o a = some o := by unfold upd; rw [if_pos rfl]
theorem upd_ne {H : Hp} {a b : Addr} {o : HO} (h : b ≠ a) : upd H a o b = H b := by unfold upd; rw [if_neg h]
theorem ne_of_none {H : Hp} {a b : Addr} {o : HO} (h : H a = some o) (h' : H b = none) : a ≠ b := by
  intro e; subst e; rw [h] at h'; cases h'

section
variable (P : Program) (w : World)
def ObjOk (H : Hp) (h : Heap) (a : Addr) : HO → Prop
  | .lst xs => xs.length ≤ sizeLine ∧ ∃ (its : List Value) (n : Nat), Vals xs its ∧ h.get? a = some { cls := .type "list", data := .seq its.toArray n }
  | .tup xs => xs.length ≤ sizeLine ∧ ∃ its : List Value, Vals xs its ∧ IsTup h a its.toArray
  | .dK kvs => kvs.length ≤ sizeLine ∧ (a == sysModules) = false ∧ ∃ vs, KV kvs vs ∧ h.DictOf (mixKind P w) a vs
  | .dT kvs => kvs.length ≤ sizeLine ∧ (a == sysModules) = false ∧ ∃ xs : List (List Key × Addr × Value),
      Paired (fun (p : List Key × V) (q : List Key × Addr × Value) => p.1 = q.1 ∧ H q.2.1 = some (.tup (p.1.map kV)) ∧ RelV p.2 q.2.2) kvs xs ∧
      ∃ o es ep, h.get? a = some o ∧ o.ExactDict ∧ o.data = .dict es ep ∧ es.toList = xs.map (entryOfKey (tupleKind (mixKind P w))) ∧ (xs.map (·.1)).Nodup
  | .set S n => h.SetOf (intKind P w) a S n
  | .ins C dx fs => H dx = some (.own a) ∧ fs.length ≤ 1000 ∧ dx ≠ a ∧ h.get? a = some (PySem.W.instObj C dx) ∧
      ∃ mA, h.Ns1 dx mA ∧ (∀ f, RelO (fs.lookup f) (mA f)) ∧ PySem.Within mA (fs.map (·.1))
  | .own _ => ∃ o, h.get? a = some o
  | .xd fs => ∃ mA, h.Ns1 a mA ∧ ∀ f, RelO (fs.lookup f) (mA f)
  | .rng lo hi => ∃ t u v, h.get? a = some { cls := .type "range", data := .fields #[.int lo t, .int hi u, .int 1 v] }
  | .frz o u => h.get? a = some o ∧ ObjOk H h a u
  | .tbl ps => h.get? a = some { cls := .none, data := .fields ps }
  | .met f x => h.get? a = some (PySem.W.methodObj (.ref f) (.ref x))
  | .ext φ => φ h ∧ (∃ o, h.get? a = some o) ∧ ∀ h1 h2 : Heap, φ h1 → (∀ o, h1.get? a = some o → h2.get? a = some o) → φ h2
def HOk (H : Hp) (h : Heap) : Prop := ∀ a o, H a = some o → ObjOk P w H h a o
end

section
variable {P : Program} {w : World} {H H' : Hp} {h h' : Heap} {a : Addr} {o : HO}
theorem ObjOk.lt (x : ObjOk P w H h a o) : a < h.objs.size := by
  cases o with
  | lst xs => obtain ⟨_, _, _, _, e⟩ := x; exact Heap.lt_size e
  | tup xs => obtain ⟨_, _, _, p⟩ := x; exact p.lt
  | dK kvs => obtain ⟨_, _, _, _, o, _, _, e, _⟩ := x; exact Heap.lt_size e
  | dT kvs => obtain ⟨_, _, _, _, o, _, _, e, _⟩ := x; exact Heap.lt_size e
  | set S n => obtain ⟨o, _, _, _, e, _⟩ := x; exact Heap.lt_size e
  | ins C dx fs => obtain ⟨_, _, _, e, _⟩ := x; exact Heap.lt_size e
  | own y => obtain ⟨_, e⟩ := x; exact Heap.lt_size e
  | xd fs => obtain ⟨_, ⟨_, _, _, e, _⟩, _⟩ := x; exact Heap.lt_size e
  | rng lo hi => obtain ⟨_, _, _, e⟩ := x; exact Heap.lt_size e
  | frz ob u => obtain ⟨e, _⟩ := x; exact Heap.lt_size e
  | tbl ps => exact Heap.lt_size (show h.get? a = some _ from x)
  | met f y => exact Heap.lt_size (show h.get? a = some _ from x)
  | ext φ => obtain ⟨_, ⟨_, e⟩, _⟩ := x; exact Heap.lt_size e
theorem Paired.mapP {α β : Type} {F G : α → β → Prop} : ∀ {l₁ : List α} {l₂ : List β}, Paired F l₁ l₂ → (∀ a b, F a b → G a b) → Paired G l₁ l₂
  | _, _, .nil, _ => .nil
  | _, _, .cons r t, f => .cons (f _ _ r) (Paired.mapP t f)
theorem ObjOk.stay (x : ObjOk P w H h a o) (k : ∀ b u, (b = a ∨ H b = some (.own a)) → h.get? b = some u → h'.get? b = some u)
    (ho : ∀ b, H b = some (.own a) → H' b = some (.own a)) (ht : ∀ b xs, H b = some (.tup xs) → H' b = some (.tup xs)) : ObjOk P w H' h' a o := by
  induction o with
  | lst xs => obtain ⟨z, its, n, r, e⟩ := x; exact ⟨z, its, n, r, k _ _ (.inl rfl) e⟩
  | tup xs => obtain ⟨z, its, r, ob, e, c⟩ := x; exact ⟨z, its, r, ob, k _ _ (.inl rfl) e, c⟩
  | dK kvs => obtain ⟨z, y, vs, r, ob, es, ep, e, c⟩ := x; exact ⟨z, y, vs, r, ob, es, ep, k _ _ (.inl rfl) e, c⟩
  | dT kvs =>
    obtain ⟨z, y, xs, r, ob, es, ep, e, c⟩ := x
    exact ⟨z, y, xs, Paired.mapP r fun p q z => ⟨z.1, ht _ _ z.2.1, z.2.2⟩, ob, es, ep, k _ _ (.inl rfl) e, c⟩
  | set S n => obtain ⟨ob, es, ep, t, e, c⟩ := x; exact ⟨ob, es, ep, t, k _ _ (.inl rfl) e, c⟩
  | ins C dx fs =>
    obtain ⟨d, z, ne, e, mA, ⟨od, es, ep, e2, c⟩, r⟩ := x
    exact ⟨ho _ d, z, ne, k _ _ (.inl rfl) e, mA, ⟨od, es, ep, k _ _ (.inr d) e2, c⟩, r⟩
  | own y => obtain ⟨ob, e⟩ := x; exact ⟨ob, k _ _ (.inl rfl) e⟩
  | xd fs => obtain ⟨mA, ⟨od, es, ep, e, c⟩, r⟩ := x; exact ⟨mA, ⟨od, es, ep, k _ _ (.inl rfl) e, c⟩, r⟩
  | rng lo hi => obtain ⟨t, u, v, e⟩ := x; exact ⟨t, u, v, k _ _ (.inl rfl) e⟩
  | frz ob u ih => obtain ⟨e, q⟩ := x; exact ⟨k _ _ (.inl rfl) e, ih q⟩
  | tbl ps =>
    have e : h.get? a = some { cls := .none, data := .fields ps } := x
    show h'.get? a = some { cls := .none, data := .fields ps }
    exact k a _ (.inl rfl) e
  | met f y =>
    have e : h.get? a = some (PySem.W.methodObj (.ref f) (.ref y)) := x
    show h'.get? a = some (PySem.W.methodObj (.ref f) (.ref y))
    exact k a _ (.inl rfl) e
  | ext φ => obtain ⟨p, ⟨o, e⟩, st⟩ := x; exact ⟨st _ _ p fun o q => k _ _ (.inl rfl) q, ⟨o, k _ _ (.inl rfl) e⟩, st⟩
theorem HOk.lt (x : HOk P w H h) (e : H a = some o) : a < h.objs.size := (x a o e).lt
theorem HOk.fresh (x : HOk P w H h) (e : h.objs.size ≤ a) : H a = none := by
  cases q : H a with
  | none => rfl
  | some u => exact absurd (Nat.lt_of_lt_of_le (x.lt q) e) (Nat.lt_irrefl _)
theorem HOk.kept (x : HOk P w H h) (k : ∀ b u, h.get? b = some u → h'.get? b = some u) : HOk P w H h' := fun a o e =>
  (x a o e).stay (fun b u _ q => k b u q) (fun _ q => q) fun _ _ q => q
theorem HOk.laid (x : HOk P w H h) (k : ∀ b u, h.get? b = some u → h'.get? b = some u) (hp : h.objs.size ≤ a) (new : ObjOk P w (upd H a o) h' a o) : HOk P w (upd H a o) h' := fun b u e => by
  have hn := x.fresh hp
  by_cases hb : b = a
  · subst hb; rw [upd_same] at e; cases e; exact new
  · rw [upd_ne hb] at e
    exact (x b u e).stay (fun c v _ q => k c v q) (fun c q => by rw [upd_ne (ne_of_none q hn)]; exact q) fun c xs q => by rw [upd_ne (ne_of_none q hn)]; exact q
end

def Rd (H : Hp) (a : Addr) (u : HO) : Prop := H a = some u ∨ ∃ o, H a = some (.frz o u)
theorem Rd.ok {P : Program} {w : World} {H : Hp} {h : Heap} {a : Addr} {u : HO} (r : Rd H a u) (x : HOk P w H h) : ObjOk P w H h a u := by
  rcases r with r | ⟨o, r⟩
  · exact x a u r
  · obtain ⟨_, q⟩ := x a _ r
    exact q
def Mut : Option HO → Prop
  | some (.lst _) => True
  | some (.dK _) => True
  | some (.dT _) => True
  | some (.set _ _) => True
  | some (.ins _ _ _) => True
  | some (.ext _) => True
  | _ => False
section
variable {P : Program} {w : World} {H : Hp} {h h' : Heap} {x e : Addr} {o' : HO}
theorem HOk.write (ok : HOk P w H h) (mu : Mut (H x)) (he : e = x ∨ H e = some (.own x)) (k : ∀ b u, b ≠ e → h.get? b = some u → h'.get? b = some u) (heo : ∃ u, h'.get? e = some u)
    (new : ObjOk P w (upd H x o') h' x o') : HOk P w (upd H x o') h' := fun b u q => by
  have nown : ∀ c y, H c = some (.own y) → c ≠ x := fun c y r z => by subst z; rw [r] at mu; exact mu
  have ntup : ∀ c xs, H c = some (.tup xs) → c ≠ x := fun c xs r z => by subst z; rw [r] at mu; exact mu
  by_cases hb : b = x
  · subst hb; rw [upd_same] at q; cases q; exact new
  · rw [upd_ne hb] at q
    by_cases hbe : b = e
    · have q' : H b = some (.own x) := by
        rcases he with z | z
        · exact absurd (hbe.trans z) hb
        · rw [hbe]; exact z
      rw [q] at q'; cases q'
      obtain ⟨v, hv⟩ := heo
      exact ⟨v, by rw [hbe]; exact hv⟩
    · refine (ok b u q).stay (fun c v hc r => k c v ?_ r) (fun c r => by rw [upd_ne (nown c b r)]; exact r) fun c xs r => by rw [upd_ne (ntup c xs r)]; exact r
      rcases hc with rfl | hc
      · exact hbe
      · rintro rfl
        rcases he with z | z
        · exact nown c b hc z
        · rw [hc] at z; cases z; exact hb rfl
end

/-! ### kept unless tracked; of the frames at fs (the callers') the slots may change (an exception that passes writes there); of the records at ex (iterators) nothing is said -/
structure Un (fs ex : List Addr) (H H' : Hp) (h h' : Heap) : Prop where
  keep : ∀ b o, h.get? b = some o → H b = none → b ∉ fs → b ∉ ex → h'.get? b = some o
  slot : ∀ b o, h.get? b = some o → H b = none → b ∈ fs → b ∉ ex → ∃ sl, h'.get? b = some { o with slots := sl }
  free : ∀ b o, h.get? b = some o → H b = none → b ∉ ex → H' b = none
  there : ∀ b o, h.get? b = some o → b ∉ ex → ∃ o', h'.get? b = some o'
  tups : ∀ b xs, H b = some (.tup xs) → H' b = some (.tup xs)
  frzs : ∀ b o u, H b = some (.frz o u) → H' b = some (.frz o u)
  tbls : ∀ b ps, H b = some (.tbl ps) → ∃ more, H' b = some (.tbl (ps ++ more))
section
variable {fs fs' ex ex' : List Addr} {H H1 H2 : Hp} {h h1 h2 h' : Heap} {a x e : Addr} {o : HO}
theorem Un.any (u : Un fs ex H H1 h h1) {b : Addr} {ob : Obj} (q : h.get? b = some ob) (n : H b = none) (hx : b ∉ ex) : ∃ sl, h1.get? b = some { ob with slots := sl } := by
  by_cases hb : b ∈ fs
  · exact u.slot b ob q n hb hx
  · exact ⟨ob.slots, u.keep b ob q n hb hx⟩
theorem Un.kept (k : ∀ b u, h.get? b = some u → h'.get? b = some u) : Un fs ex H H h h' :=
  ⟨fun b ob q _ _ _ => k b ob q, fun b ob q _ _ _ => ⟨ob.slots, k b ob q⟩, fun _ _ _ n _ => n, fun b ob q _ => ⟨ob, k b ob q⟩, fun _ _ q => q, fun _ _ _ q => q, fun _ ps q => ⟨#[], by rw [q]; simp⟩⟩
theorem Un.refl : Un fs ex H H h h := Un.kept fun _ _ q => q
theorem Un.laid (k : ∀ b u, h.get? b = some u → h'.get? b = some u) (hp : h.objs.size ≤ a) (hn : H a = none) : Un fs ex H (upd H a o) h h' where
  keep := fun b u q _ _ _ => k b u q
  slot := fun b u q _ _ _ => ⟨u.slots, k b u q⟩
  free := fun b u q n _ => by rw [upd_ne (Nat.ne_of_lt (Nat.lt_of_lt_of_le (Heap.lt_size q) hp))]; exact n
  there := fun b u q _ => ⟨u, k b u q⟩
  tups := fun b xs q => by rw [upd_ne (ne_of_none q hn)]; exact q
  frzs := fun b u xs q => by rw [upd_ne (ne_of_none q hn)]; exact q
  tbls := fun b ps q => ⟨#[], by rw [upd_ne (ne_of_none q hn), q]; simp⟩
theorem Un.write (mu : Mut (H x)) (he : e = x ∨ H e = some (.own x)) (k : ∀ b u, b ≠ e → h.get? b = some u → h'.get? b = some u) (heo : ∃ u, h'.get? e = some u) : Un fs ex H (upd H x o) h h' := by
  have hx : ∀ b, H b = none → b ≠ x := fun b n z => by subst z; rw [n] at mu; exact mu
  have hb : ∀ b, H b = none → b ≠ e := fun b n z => by
    subst z
    rcases he with r | r
    · exact hx b n r
    · rw [n] at r; cases r
  have hm : ∀ b u, H b = some u → ¬ Mut (some u) → b ≠ x := fun b u q nm z => by subst z; rw [q] at mu; exact nm mu
  refine ⟨fun b u q n _ _ => k b u (hb b n) q, fun b u q n _ _ => ⟨u.slots, k b u (hb b n) q⟩, fun b u q n _ => by rw [upd_ne (hx b n)]; exact n, fun b u q _ => ?_,
    fun b xs q => by rw [upd_ne (hm b _ q fun z => z)]; exact q, fun b u xs q => by rw [upd_ne (hm b _ q fun z => z)]; exact q, fun b ps q => ⟨#[], by rw [upd_ne (hm b _ q fun z => z), q]; simp⟩⟩
  by_cases hbe : b = e
  · subst hbe; exact heo
  · exact ⟨u, k b u hbe q⟩
end

/-! ### the heap without what is tracked -/
def trk (h : Heap) (H : Hp) : List Addr := (List.range h.objs.size).filter fun a => (H a).isSome
def hidT (h : Heap) (H : Hp) : Heap := PySem.W.hideAll h (trk h H)
theorem hidT_size (h : Heap) (H : Hp) : (hidT h H).objs.size = h.objs.size := PySem.W.hideAll_size _ _
theorem hidT_get {h : Heap} {H : Hp} {b : Addr} {o : Obj} (e : h.get? b = some o) (n : H b = none) : (hidT h H).get? b = some o :=
  PySem.W.hideAll_get _ e fun hm => by
    have q : (H b).isSome = true := (List.mem_filter.mp hm).2
    rw [n] at q; simp at q
theorem of_hidT {h : Heap} {H : Hp} {b : Addr} {o : Obj} (e : (hidT h H).get? b = some o) : h.get? b = some o ∧ H b = none := by
  have e' : h.get? b = some o := PySem.W.of_hideAll (trk h H) e
  refine ⟨e', ?_⟩
  cases q : H b with
  | none => rfl
  | some x =>
    have hm : b ∈ trk h H := List.mem_filter.mpr ⟨List.mem_range.mpr (Heap.lt_size e'), by simp [q]⟩
    have z : (hidT h H).get? b = none := PySem.W.hideAll_none (trk h H) hm
    rw [z] at e; cases e

/-! ### OpenK's ledger, filled with every new object but one -/
def allNews (g h : Heap) (L : Addr) : List (Addr × Obj) := (List.range h.objs.size).filterMap fun a => if a = L ∨ (g.get? a).isSome = true then none else (h.get? a).map fun o => (a, o)
def rest (g h : Heap) (L d : Addr) : List (Addr × Obj) := (allNews g h L).filter fun p => decide (p.1 ≠ d)
end L2

namespace L2
open PySem PySem.Spec PyProof.Rows

structure Mod (K : PySem.W.Frag) (mg : Str → Option Value) (base : Heap) : Prop where
  kin : K.In base
  glob : base.Ns mainGlobals mg
  blt : ∃ mb, base.Ns builtinsNs mb ∧ ∀ x : Str, x ≠ "__name__" → mb x = bootBuiltins x
  nolimit : base.NoLimit

/-- the context: a def's body (or a comprehension's block) running. base: fixed through the whole law; s₀, H₀: the entry; outer: the frames whose slots others may change (a def's callers); stack: all frames that run;
   ex: iterators that were made ahead of the entry and are walked here (a comprehension's); fn: the names whose cells were made at the entry (a def: all; a comprehension's block: its own); calm: not within an except suite; pn: pins that every state bears; xe: what is wanted of an exception that leaves the code -/
structure Cx where
  prog : Program
  w : World
  K : PySem.W.Frag
  mg : Str → Option Value
  base : Heap
  A : Around
  N : List Str
  s₀ : Shared
  H₀ : Hp
  env : Env
  outer : List Env
  stack : List Env
  ex : List Addr
  fn : Str → Bool
  calm : Bool
  pn : List (Addr × Obj)
  xe : Value → Shared → Prop
def frs (l : List Env) : List Addr := l.filterMap (·.frame)
abbrev Cx.fs (X : Cx) : List Addr := frs X.outer

def Vis (sc : Scope) (x : Str) : Prop := sc.names.lookup x = some .local ∨ sc.names.lookup x = some .cell ∨ sc.names.lookup x = some .free
def Loc (sc : Scope) (x : Str) : Prop := sc.names.lookup x = some .local ∨ sc.names.lookup x = some .cell
def Look (env : Env) (h : Heap) (m : Str → Option Value) (x : Str) (u : Value) : Prop :=
  (env.kindOf x = some .local ∧ m x = some u) ∨ ((env.kindOf x = some .cell ∨ env.kindOf x = some .free) ∧ ∃ c, env.cells.lookup x = some c ∧ h.IsCell c (some u))

structure Cx.Ok (X : Cx) : Prop where
  mod : Mod X.K X.mg X.base
  kind : X.env.scope.kind = .function
  glob : X.env.globals = mainGlobals
  blt : X.env.builtins = builtinsNs
  above : X.s₀.heap.objs.size ≤ X.env.locals
  inj : ∀ x y c, X.env.cells.lookup x = some c → X.env.cells.lookup y = some c → x = y
  has : ∀ x, (X.env.kindOf x = some .cell ∨ X.env.kindOf x = some .free) → ∃ c, X.env.cells.lookup x = some c
  cab : ∀ x c, X.fn x = true → X.env.cells.lookup x = some c → X.s₀.heap.objs.size ≤ c
  hd : X.calm = true → X.A.handled = none
  frames : X.A.frames = some X.stack
  stk : X.stack = X.outer ∨ (X.stack = X.env :: X.outer ∧ X.env.frame = some X.env.locals)
  exf : ∀ b ∈ X.ex, b ≠ X.env.locals ∧ ∀ x c, X.env.cells.lookup x = some c → c ≠ b
  bs : ∀ b o, X.base.get? b = some o → X.s₀.heap.get? b = some o ∧ X.H₀ b = none
  bsz : X.base.objs.size ≤ X.s₀.heap.objs.size
  noex : ∀ b o, X.base.get? b = some o → b ∉ X.ex
  exfs : ∀ b ∈ X.ex, b ∉ X.fs
  funs : X.s₀.heap.FunFrames X.base X.outer
  frf : ∀ b ∈ X.fs, X.H₀ b = none

structure Inv (X : Cx) (pins : List (Addr × Obj)) (σ : List (Option V)) (H : Hp) (s : Shared) : Prop where
  ok : X.Ok
  os : s.os = X.s₀.os
  bare : AllBare s.gens
  base : Un X.fs X.ex X.H₀ H X.s₀.heap s.heap
  loc : ∃ m, s.heap.Ns X.env.locals m ∧ ∀ (i : Nat) (x : Str) (v : V), X.N[i]? = some x → σ[i]? = some (some v) → Vis X.env.scope x → ∃ u, RelV v u ∧ Look X.env s.heap m x u
  cell : ∀ x c, X.env.cells.lookup x = some c → ∃ v, s.heap.IsCell c v
  free : H X.env.locals = none
  freeC : ∀ x c, X.env.cells.lookup x = some c → H c = none
  pin : ∀ p ∈ X.pn ++ pins, s.heap.get? p.1 = some p.2 ∧ H p.1 = none ∧ p.1 ≠ X.env.locals ∧ p.1 ∉ X.fs ∧ ∀ v, p.2.data ≠ .cell v
  hok : HOk X.prog X.w H s.heap
  len : σ.length = X.N.length

section
variable {X : Cx} {pins : List (Addr × Obj)} {σ : List (Option V)} {H H' : Hp} {s : Shared} {h' : Heap}

theorem Cx.Ok.nofr (ok : X.Ok) {b : Addr} {o : Obj} (e : X.base.get? b = some o) : b ∉ X.fs := fun hb => by
  have := (ok.funs.mem hb).1
  rw [e] at this; cases this
theorem Inv.bs (I : Inv X pins σ H s) : ∀ b o, X.base.get? b = some o → s.heap.get? b = some o ∧ H b = none := fun b o e =>
  ⟨I.base.keep b o (I.ok.bs b o e).1 (I.ok.bs b o e).2 (I.ok.nofr e) (I.ok.noex b o e), I.base.free b o (I.ok.bs b o e).1 (I.ok.bs b o e).2 (I.ok.noex b o e)⟩
theorem Inv.bk (I : Inv X pins σ H s) : ∀ b o, X.base.get? b = some o → s.heap.get? b = some o := fun b o e => (I.bs b o e).1
theorem Inv.mod (I : Inv X pins σ H s) : Mod X.K X.mg X.base := I.ok.mod
theorem Inv.kIn (I : Inv X pins σ H s) : X.K.In s.heap := I.ok.mod.kin.keeps I.bk
theorem Inv.lt (I : Inv X pins σ H s) : X.env.locals < s.heap.objs.size := let ⟨_, hn, _⟩ := I.loc; hn.lt
theorem Inv.sz (I : Inv X pins σ H s) : X.s₀.heap.objs.size ≤ s.heap.objs.size := Nat.le_trans I.ok.above (Nat.le_of_lt I.lt)
theorem Inv.nofs (I : Inv X pins σ H s) {a : Addr} (h : s.heap.objs.size ≤ a) : a ∉ X.fs := fun hb => by
  obtain ⟨_, o, ho, _⟩ := I.ok.funs.mem hb
  exact absurd (Nat.lt_of_lt_of_le (Heap.lt_size ho) (Nat.le_trans I.sz h)) (Nat.lt_irrefl _)
theorem Inv.cne (I : Inv X pins σ H s) : ∀ x c, X.env.cells.lookup x = some c → c ≠ X.env.locals := fun x c e z => by
  obtain ⟨v, o, ho, hd⟩ := I.cell x c e
  obtain ⟨m, ⟨o', es, ep, ho', hd', _⟩, _⟩ := I.loc
  rw [z, ho'] at ho; cases ho; rw [hd'] at hd; cases hd
theorem Inv.funs (I : Inv X pins σ H s) : s.heap.FunFrames X.base X.outer := by
  have all : ∀ (l : List Env), (∀ b ∈ frs l, b ∈ X.fs) → X.s₀.heap.FunFrames X.base l → s.heap.FunFrames X.base l := by
    intro l
    induction l with
    | nil => intro _ _; trivial
    | cons env r ih =>
      intro hs hl
      obtain ⟨hk, ⟨L, o, hf, hn, ho, hd⟩, hr⟩ := hl
      have hL : L ∈ X.fs := hs L (by unfold frs; rw [List.filterMap_cons, hf]; exact List.mem_cons_self)
      obtain ⟨sl, e⟩ := I.base.slot L o ho (I.ok.frf L hL) hL fun z => I.ok.exfs L z hL
      exact ⟨hk, ⟨L, _, hf, hn, e, hd⟩, ih (fun b hb => hs b (by unfold frs; rw [List.filterMap_cons, hf]; exact List.mem_cons_of_mem _ hb)) hr⟩
  exact all X.outer (fun _ hb => hb) I.ok.funs

theorem Inv.stack (I : Inv X pins σ H s) : s.heap.FunFrames X.base X.stack := by
  rcases I.ok.stk with e | ⟨e, hf⟩
  · rw [e]; exact I.funs
  · rw [e]
    obtain ⟨m, hn, _⟩ := I.loc
    refine .cons (by rw [I.ok.kind]; decide) hf hn ?_ I.funs
    exact Heap.get?_none_of_le (Nat.le_trans I.ok.bsz I.ok.above)
theorem Inv.stkSub (I : Inv X pins σ H s) : ∀ b ∈ frs X.stack, b ∈ X.env.locals :: X.fs := fun b hb => by
  rcases I.ok.stk with e | ⟨e, hf⟩
  · rw [e] at hb; exact List.mem_cons_of_mem _ hb
  · rw [e] at hb
    unfold frs at hb
    rw [List.filterMap_cons, hf] at hb
    exact hb
theorem Inv.stkFree (I : Inv X pins σ H s) : ∀ b ∈ frs X.stack, H b = none := fun b hb => by
  rcases List.mem_cons.mp (I.stkSub b hb) with e | hb
  · rw [e]; exact I.free
  · obtain ⟨_, o, ho, _⟩ := I.ok.funs.mem hb
    exact I.base.free b o ho (I.ok.frf b hb) fun z => I.ok.exfs b z hb

theorem Inv.step {g' : Array GenState} {t' : Nat} {d' : Drawn} {ch : List Addr} (I : Inv X pins σ H s)
    (hch : ∀ b ∈ ch, (b ∈ X.ex ∨ X.s₀.heap.objs.size ≤ b) ∧ b ≠ X.env.locals ∧ (∀ x c, X.env.cells.lookup x = some c → c ≠ b) ∧ ∀ p ∈ X.pn ++ pins, p.1 ≠ b)
    (keep : ∀ b o, b ≠ X.env.locals → b ∉ X.fs → b ∉ ch → s.heap.get? b = some o → H b = none → h'.get? b = some o)
    (slot : ∀ b o, b ≠ X.env.locals → b ∈ X.fs → b ∉ ch → s.heap.get? b = some o → H b = none → ∃ sl, h'.get? b = some { o with slots := sl }) (free : ∀ b o, b ∉ ch → s.heap.get? b = some o → H b = none → H' b = none)
    (there : ∀ b o, b ∉ ch → s.heap.get? b = some o → ∃ o', h'.get? b = some o')
    (tups : ∀ b xs, H b = some (.tup xs) → H' b = some (.tup xs)) (frzs : ∀ b o u, H b = some (.frz o u) → H' b = some (.frz o u)) (tbls : ∀ b ps, H b = some (.tbl ps) → ∃ more, H' b = some (.tbl (ps ++ more)))
    (ns : ∀ m, s.heap.Ns X.env.locals m → h'.Ns X.env.locals m) (hok : HOk X.prog X.w H' h') (hg : AllBare g') :
    Inv X pins σ H' { s with heap := h', gens := g', drawn := d', toks := t' } := by
  have neL : ∀ b o, X.s₀.heap.get? b = some o → b ≠ X.env.locals := fun b o e => Nat.ne_of_lt (Nat.lt_of_lt_of_le (Heap.lt_size e) I.ok.above)
  have neC : ∀ b o, X.s₀.heap.get? b = some o → b ∉ X.ex → b ∉ ch := fun b o e hx hb => by
    rcases (hch b hb).1 with z | z
    · exact hx z
    · exact absurd (Nat.lt_of_lt_of_le (Heap.lt_size e) z) (Nat.lt_irrefl _)
  have cellK : ∀ x c, X.env.cells.lookup x = some c → ∀ v, s.heap.IsCell c v → h'.IsCell c v := fun x c e v ⟨o, ho, hd⟩ => by
    have nch : c ∉ ch := fun z => (hch c z).2.2.1 x c e rfl
    by_cases hc : c ∈ X.fs
    · obtain ⟨sl, q⟩ := slot c o (I.cne x c e) hc nch ho (I.freeC x c e)
      exact ⟨_, q, hd⟩
    · exact ⟨o, keep c o (I.cne x c e) hc nch ho (I.freeC x c e), hd⟩
  refine ⟨I.ok, I.os, hg, ⟨fun b o e n hb hx => ?_, fun b o e n hb hx => ?_, fun b o e n hx => ?_, fun b o e hx => ?_, fun b xs e => tups b xs (I.base.tups b xs e), fun b o xs e => frzs b o xs (I.base.frzs b o xs e), fun b ps e => ?_⟩, ?_, fun x c e => ?_, ?_, fun x c e => ?_, fun p hp => ?_, hok, I.len⟩
  · exact keep b o (neL b o e) hb (neC b o e hx) (I.base.keep b o e n hb hx) (I.base.free b o e n hx)
  · obtain ⟨sl, e1⟩ := I.base.slot b o e n hb hx
    obtain ⟨sl', e2⟩ := slot b _ (neL b o e) hb (neC b o e hx) e1 (I.base.free b o e n hx)
    exact ⟨sl', e2⟩
  · obtain ⟨o', e1⟩ := I.base.there b o e hx
    exact free b o' (neC b o e hx) e1 (I.base.free b o e n hx)
  · obtain ⟨o', e1⟩ := I.base.there b o e hx
    exact there b o' (neC b o e hx) e1
  · obtain ⟨m1, e1⟩ := I.base.tbls b ps e
    obtain ⟨m2, e2⟩ := tbls b _ e1
    exact ⟨m1 ++ m2, by rw [e2, Array.append_assoc]⟩
  · obtain ⟨m, hn, hl⟩ := I.loc
    refine ⟨m, ns m hn, fun i x v e1 e2 e3 => ?_⟩
    obtain ⟨u, r, l⟩ := hl i x v e1 e2 e3
    refine ⟨u, r, ?_⟩
    rcases l with l | ⟨k, c, e, z⟩
    · exact .inl l
    · exact .inr ⟨k, c, e, cellK x c e _ z⟩
  · obtain ⟨v, z⟩ := I.cell x c e
    exact ⟨v, cellK x c e v z⟩
  · obtain ⟨m, ⟨o, _, _, ho, _⟩, _⟩ := I.loc
    exact free _ o (fun z => (hch _ z).2.1 rfl) ho I.free
  · obtain ⟨v, o, ho, hd⟩ := I.cell x c e
    exact free c o (fun z => (hch c z).2.2.1 x c e rfl) ho (I.freeC x c e)
  · obtain ⟨e, n, ne, nf, d⟩ := I.pin p hp
    have nch : p.1 ∉ ch := fun z => (hch p.1 z).2.2.2 p hp rfl
    exact ⟨keep p.1 p.2 ne nf nch e n, free p.1 p.2 nch e n, ne, nf, d⟩
theorem Inv.un {t' : Nat} (I : Inv X pins σ H s) (u : Un X.fs [] H H' s.heap h') (hok : HOk X.prog X.w H' h') : Inv X pins σ H' { s with heap := h', toks := t' } := by
  obtain ⟨m, ⟨o, es, ep, ho, r⟩, _⟩ := id I.loc
  obtain ⟨sl, hL⟩ := u.any ho I.free (by simp)
  exact I.step (g' := s.gens) (d' := s.drawn) (ch := []) (fun _ z => nomatch z) (fun b o _ hb _ e n => u.keep b o e n hb (by simp)) (fun b o _ hb _ e n => u.slot b o e n hb (by simp)) (fun b o _ e n => u.free b o e n (by simp)) (fun b o _ e => u.there b o e (by simp)) u.tups u.frzs u.tbls (fun m' hm => by
    obtain ⟨o', es', ep', ho', r'⟩ := hm
    rw [ho] at ho'; cases ho'
    exact ⟨_, es', ep', hL, r'⟩) hok I.bare
theorem Inv.call {g' : Array GenState} {t' : Nat} {d' : Drawn} {ch : List Addr} (I : Inv X pins σ H s) (u : Un (frs X.stack) ch H H' s.heap h') (hok : HOk X.prog X.w H' h') (hg : AllBare g')
    (hch : ∀ b ∈ ch, (b ∈ X.ex ∨ X.s₀.heap.objs.size ≤ b) ∧ b ≠ X.env.locals ∧ (∀ x c, X.env.cells.lookup x = some c → c ≠ b) ∧ ∀ p ∈ X.pn ++ pins, p.1 ≠ b) :
    Inv X pins σ H' { s with heap := h', gens := g', drawn := d', toks := t' } := by
  obtain ⟨m, ⟨o, es, ep, ho, r⟩, _⟩ := id I.loc
  obtain ⟨sl, hL⟩ := u.any ho I.free fun z => (hch _ z).2.1 rfl
  exact I.step (ch := ch) hch (fun b o hL hb hc e n => u.keep b o e n (fun z => (List.mem_cons.mp (I.stkSub b z)).elim hL hb) hc) (fun b o _ _ hc e n => u.any e n hc) (fun b o hc e n => u.free b o e n hc) (fun b o hc e => u.there b o e hc) u.tups u.frzs u.tbls (fun m' hm => by
    obtain ⟨o', es', ep', ho', r'⟩ := hm
    rw [ho] at ho'; cases ho'
    exact ⟨_, es', ep', hL, r'⟩) hok hg
theorem Inv.turned {t' : Nat} {it : Addr} (I : Inv X pins σ H s) (k : ∀ b o, b ≠ it → s.heap.get? b = some o → h'.get? b = some o) (hn : H it = none) (hL : it ≠ X.env.locals)
    (h1 : it ∈ X.ex ∨ X.s₀.heap.objs.size ≤ it) (h2 : ∀ x c, X.env.cells.lookup x = some c → c ≠ it) (h3 : ∀ p ∈ X.pn ++ pins, p.1 ≠ it) : Inv X pins σ H { s with heap := h', toks := t' } := by
  have nit : ∀ b u, H b = some u → b ≠ it := fun b u e z => by rw [z, hn] at e; cases e
  refine I.step (g' := s.gens) (d' := s.drawn) (ch := [it]) (fun b hb => ?_) (fun b o _ _ hc e _ => k b o (fun z => hc (by simp [z])) e) (fun b o _ _ hc e _ => ⟨o.slots, k b o (fun z => hc (by simp [z])) e⟩) (fun _ _ _ _ n => n)
    (fun b o hc e => ⟨o, k b o (fun z => hc (by simp [z])) e⟩) (fun _ _ e => e) (fun _ _ _ e => e) (fun b ps e => ⟨#[], by rw [e]; simp⟩) (fun m hm => ?_) (fun b u e => ?_) I.bare
  · have e : b = it := by simpa using hb
    subst e
    exact ⟨h1, hL, h2, h3⟩
  · obtain ⟨o, es, ep, ho, r⟩ := hm
    exact ⟨o, es, ep, k _ o (Ne.symm hL) ho, r⟩
  · refine (I.hok b u e).stay (fun c v hc q => k c v ?_ q) (fun _ q => q) fun _ _ q => q
    rcases hc with z | z
    · rw [z]; exact nit b u e
    · exact nit c _ z
theorem Inv.tok (I : Inv X pins σ H s) (t : Nat) : Inv X pins σ H { s with toks := t } := I.un (h' := s.heap) (t' := t) Un.refl I.hok
theorem Inv.kept {t' : Nat} (I : Inv X pins σ H s) (k : ∀ b u, s.heap.get? b = some u → h'.get? b = some u) : Inv X pins σ H { s with heap := h', toks := t' } := I.un (Un.kept k) (I.hok.kept k)
theorem Inv.laid {a : Addr} {o : HO} {t' : Nat} (I : Inv X pins σ H s) (k : ∀ b u, s.heap.get? b = some u → h'.get? b = some u) (hp : s.heap.objs.size ≤ a) (new : ObjOk X.prog X.w (upd H a o) h' a o) :
    Inv X pins σ (upd H a o) { s with heap := h', toks := t' } := I.un (Un.laid k hp (I.hok.fresh hp)) (I.hok.laid k hp new)
theorem Inv.write {x e : Addr} {o : HO} {t' : Nat} (I : Inv X pins σ H s) (mu : Mut (H x)) (he : e = x ∨ H e = some (.own x)) (k : ∀ b u, b ≠ e → s.heap.get? b = some u → h'.get? b = some u) (heo : ∃ u, h'.get? e = some u)
    (new : ObjOk X.prog X.w (upd H x o) h' x o) : Inv X pins σ (upd H x o) { s with heap := h', toks := t' } := I.un (Un.write mu he k heo) (I.hok.write mu he k heo new)
theorem Inv.pins_of {pins' : List (Addr × Obj)} (I : Inv X pins σ H s) (h : ∀ p ∈ pins', s.heap.get? p.1 = some p.2 ∧ H p.1 = none ∧ p.1 ≠ X.env.locals ∧ p.1 ∉ X.fs ∧ ∀ v, p.2.data ≠ .cell v) : Inv X pins' σ H s :=
  ⟨I.ok, I.os, I.bare, I.base, I.loc, I.cell, I.free, I.freeC, fun p hp => (List.mem_append.mp hp).elim (fun z => I.pin p (List.mem_append_left _ z)) (h p), I.hok, I.len⟩

theorem nodup_ix {N : List Str} (hN : N.Nodup) {i j : Nat} {x : Str} (a : N[i]? = some x) (b : N[j]? = some x) : i = j := by
  obtain ⟨h1, e1⟩ := List.getElem?_eq_some_iff.mp a
  obtain ⟨h2, e2⟩ := List.getElem?_eq_some_iff.mp b
  exact (List.getElem_inj hN).mp (e1.trans e2.symm)

theorem store_ok2 {M : Model} {A : Around} {E : Value → Shared → Prop} {i : Nat} {x : Str} {v : V} {u : Value} {Q : Unit → Shared → Prop} (I : Inv X pins σ H s) (hN : X.N.Nodup) (hi : X.N[i]? = some x) (hx : Loc X.env.scope x) (r : RelV v u)
    (h : ∀ s', Inv X pins (σ.set i (some v)) H s' → (∃ a, Heap.SameBut a s.heap s'.heap ∧ (a = X.env.locals ∨ X.env.cells.lookup x = some a)) → Q () s') (hf : X.fn x = true ∨ X.env.scope.names.lookup x = some .local := by first | exact .inl rfl | exact .inr rfl | assumption) : wpAny M A (storeName X.env x u) Q E s := by
  obtain ⟨m, hn, hl⟩ := id I.loc
  have hcls : (X.env.scope.kind == .class || (X.env.scope.kind == .module && X.env.locals != X.env.globals)) = false := by rw [I.ok.kind]; rfl
  have hiσ : i < σ.length := by rw [I.len]; exact (List.getElem?_eq_some_iff.mp hi).1
  have cne := I.cne
  have tracked : ∀ {a : Addr} {h' : Heap}, (∃ o, s.heap.get? a = some o ∧ H a = none) → Heap.SameBut a s.heap h' → HOk X.prog X.w H h' := fun {a h'} ha hs b ob e => by
    obtain ⟨_, _, hfree⟩ := ha
    refine (I.hok b ob e).stay (fun c w' hc q => (hs.2 c ?_).trans q) (fun _ q => q) fun _ _ q => q
    rintro rfl
    rcases hc with rfl | hc
    · rw [hfree] at e; cases e
    · rw [hfree] at hc; cases hc
  rcases hx with hk | hk
  · refine wpAny_storeName_local hk hn (fun h' hn' hs => ?_) hcls
    obtain ⟨oL, _, _, hoL, _⟩ := id hn
    refine h _ ⟨I.ok, I.os, I.bare, ⟨fun b o e n hb hx => ?_, fun b o e n hb hx => ?_, I.base.free, fun b o e hx => ?_, I.base.tups, I.base.frzs, I.base.tbls⟩, ⟨_, hn', fun j y v' e1 e2 e3 => ?_⟩, fun y c e => ?_, I.free, I.freeC, fun p hp => ?_, tracked ⟨oL, hoL, I.free⟩ hs, by simpa using I.len⟩ ⟨_, hs, .inl rfl⟩
    · exact (hs.2 b (Nat.ne_of_lt (Nat.lt_of_lt_of_le (Heap.lt_size e) I.ok.above))).trans (I.base.keep b o e n hb hx)
    · obtain ⟨sl, e1⟩ := I.base.slot b o e n hb hx
      exact ⟨sl, (hs.2 b (Nat.ne_of_lt (Nat.lt_of_lt_of_le (Heap.lt_size e) I.ok.above))).trans e1⟩
    · obtain ⟨o', e1⟩ := I.base.there b o e hx
      exact ⟨o', (hs.2 b (Nat.ne_of_lt (Nat.lt_of_lt_of_le (Heap.lt_size e) I.ok.above))).trans e1⟩
    · by_cases hj : j = i
      · subst hj
        rw [hi] at e1; cases e1
        rw [List.getElem?_set_self hiσ] at e2
        cases e2
        exact ⟨u, r, .inl ⟨hk, by simp⟩⟩
      · rw [List.getElem?_set_ne (Ne.symm hj)] at e2
        obtain ⟨u', r', q⟩ := hl j y v' e1 e2 e3
        refine ⟨u', r', ?_⟩
        rcases q with ⟨k, e⟩ | ⟨k, c, e, z⟩
        · refine .inl ⟨k, ?_⟩
          have : y ≠ x := fun e => hj (nodup_ix hN e1 (e ▸ hi))
          simp [this, e]
        · exact .inr ⟨k, c, e, z.sameBut hs (cne y c e)⟩
    · obtain ⟨w', z⟩ := I.cell y c e
      exact ⟨w', z.sameBut hs (cne y c e)⟩
    · obtain ⟨e, n, ne, nf, d⟩ := I.pin p hp
      exact ⟨(hs.2 p.1 ne).trans e, n, ne, nf, d⟩
  · have hfn : X.fn x = true := by
      rcases hf with z | z
      · exact z
      · rw [z] at hk; cases hk
    obtain ⟨c, hc⟩ := I.ok.has x (.inl hk)
    obtain ⟨w', z⟩ := I.cell x c hc
    refine wpAny_storeName_cell I.ok.kind hk hc z (fun h' hc' hs => ?_)
    obtain ⟨oc, hoc, hocd⟩ := id z
    refine h { s with heap := h' } ⟨I.ok, I.os, I.bare, ⟨fun b o e n hb hx => ?_, fun b o e n hb hx => ?_, I.base.free, fun b o e hx => ?_, I.base.tups, I.base.frzs, I.base.tbls⟩, ⟨m, hn.sameBut hs (Ne.symm (cne x c hc)), fun j y v' e1 e2 e3 => ?_⟩, fun y c' e => ?_, I.free, I.freeC, fun p hp => ?_, tracked ⟨oc, hoc, I.freeC x c hc⟩ hs, by simpa using I.len⟩ ⟨c, hs, .inr hc⟩
    · exact (hs.2 b (Nat.ne_of_lt (Nat.lt_of_lt_of_le (Heap.lt_size e) (I.ok.cab x c hfn hc)))).trans (I.base.keep b o e n hb hx)
    · obtain ⟨sl, e1⟩ := I.base.slot b o e n hb hx
      exact ⟨sl, (hs.2 b (Nat.ne_of_lt (Nat.lt_of_lt_of_le (Heap.lt_size e) (I.ok.cab x c hfn hc)))).trans e1⟩
    · obtain ⟨o', e1⟩ := I.base.there b o e hx
      exact ⟨o', (hs.2 b (Nat.ne_of_lt (Nat.lt_of_lt_of_le (Heap.lt_size e) (I.ok.cab x c hfn hc)))).trans e1⟩
    · by_cases hj : j = i
      · subst hj
        rw [hi] at e1; cases e1
        rw [List.getElem?_set_self hiσ] at e2
        cases e2
        exact ⟨u, r, .inr ⟨.inl hk, c, hc, hc'⟩⟩
      · rw [List.getElem?_set_ne (Ne.symm hj)] at e2
        obtain ⟨u', r', q⟩ := hl j y v' e1 e2 e3
        refine ⟨u', r', ?_⟩
        rcases q with q | ⟨k, c', e, z'⟩
        · exact .inl q
        · refine .inr ⟨k, c', e, z'.sameBut hs ?_⟩
          rintro rfl
          exact hj (nodup_ix hN e1 (I.ok.inj _ _ _ e hc ▸ hi))
    · by_cases hcc : c' = c
      · subst hcc; exact ⟨_, hc'⟩
      · obtain ⟨w2, z2⟩ := I.cell y c' e
        exact ⟨w2, z2.sameBut hs hcc⟩
    · obtain ⟨e, n, ne, nf, d⟩ := I.pin p hp
      refine ⟨(hs.2 p.1 ?_).trans e, n, ne, nf, d⟩
      intro q
      rw [q, hoc] at e
      have q' : oc = p.2 := Option.some.inj e
      exact d w' (by rw [← q']; exact hocd)
theorem store_ok {M : Model} {A : Around} {E : Value → Shared → Prop} {i : Nat} {x : Str} {v : V} {u : Value} {Q : Unit → Shared → Prop} (I : Inv X pins σ H s) (hN : X.N.Nodup) (hi : X.N[i]? = some x) (hx : Loc X.env.scope x) (r : RelV v u)
    (h : ∀ s', Inv X pins (σ.set i (some v)) H s' → Q () s') (hf : X.fn x = true ∨ X.env.scope.names.lookup x = some .local := by first | exact .inl rfl | exact .inr rfl | assumption) : wpAny M A (storeName X.env x u) Q E s :=
  store_ok2 I hN hi hx r (fun s' I' _ => h s' I') hf
theorem Inv.call' {s' : Shared} {ch : List Addr} (I : Inv X pins σ H s) (ho : s'.os = s.os) (u : Un (frs X.stack) ch H H' s.heap s'.heap) (hok : HOk X.prog X.w H' s'.heap) (hg : AllBare s'.gens)
    (hch : ∀ b ∈ ch, (b ∈ X.ex ∨ X.s₀.heap.objs.size ≤ b) ∧ b ≠ X.env.locals ∧ (∀ x c, X.env.cells.lookup x = some c → c ≠ b) ∧ ∀ p ∈ X.pn ++ pins, p.1 ≠ b) : Inv X pins σ H' s' := by
  obtain ⟨h', g', d', t', o'⟩ := s'
  have e : o' = s.os := ho
  subst e
  exact I.call (g' := g') (t' := t') (d' := d') u hok hg hch
end

/-! ### the judgements -/
abbrev XK := Value → Option Addr → Hp → Prop
abbrev St := List (Option V)
abbrev VK := V → Hp → Prop
abbrev TE := St → Hp → VK → Prop
abbrev TT := St → Hp → (Bool → Hp → Prop) → Prop
abbrev TA := St → Hp → (List V → Hp → Prop) → Prop
structure Ends where
  nx : St → Hp → Prop
  rt : VK
  bk : St → Hp → Prop := fun _ _ => False
  ct : St → Hp → Prop := fun _ _ => False
abbrev TS := Ends → St → Hp → Prop

def EP (X : Cx) (pins : List (Addr × Obj)) (σ : St) (Q : VK) (u : Value) (s' : Shared) : Prop := ∃ v H', Inv X pins σ H' s' ∧ RelV v u ∧ Q v H'
def TP (X : Cx) (pins : List (Addr × Obj)) (σ : St) (Q : Bool → Hp → Prop) (b : Bool) (s' : Shared) : Prop := ∃ H', Inv X pins σ H' s' ∧ Q b H'
def AP (X : Cx) (pins : List (Addr × Obj)) (σ : St) (Q : List V → Hp → Prop) (us : List Value) (s' : Shared) : Prop := ∃ vs H', Inv X pins σ H' s' ∧ Vals vs us ∧ Q vs H'
def SP (X : Cx) (pins : List (Addr × Obj)) (D : Ends) (f : Flow) (s' : Shared) : Prop :=
  match f with
  | .next => ∃ σ' H', Inv X pins σ' H' s' ∧ D.nx σ' H'
  | .brk => ∃ σ' H', Inv X pins σ' H' s' ∧ D.bk σ' H'
  | .cont => ∃ σ' H', Inv X pins σ' H' s' ∧ D.ct σ' H'
  | .ret u => ∃ v σ' H', Inv X pins σ' H' s' ∧ RelV v u ∧ D.rt v H'

def PE (X : Cx) (e : Expr) (t : TE) : Prop :=
  ∀ (pins : List (Addr × Obj)) (s : Shared) (σ : St) (H : Hp) (Q : VK), Inv X pins σ H s → t σ H Q → wpAny (model X.prog X.w) X.A (eval e X.env) (EP X pins σ Q) X.xe s
def PT (X : Cx) (e : Expr) (t : TT) : Prop :=
  ∀ (pins : List (Addr × Obj)) (s : Shared) (σ : St) (H : Hp) (Q : Bool → Hp → Prop), Inv X pins σ H s → t σ H Q → wpAny (model X.prog X.w) X.A (isTrue e X.env (eval e X.env)) (TP X pins σ Q) X.xe s
def PW (X : Cx) (e : Expr) (t : TT) : Prop :=
  ∀ (whole : Sem Value) (pins : List (Addr × Obj)) (s : Shared) (σ : St) (H : Hp) (Q : Bool → Hp → Prop), Inv X pins σ H s → t σ H Q → wpAny (model X.prog X.w) X.A (isTrue e X.env whole) (TP X pins σ Q) X.xe s
theorem PW.pt {X : Cx} {e : Expr} {t : TT} (h : PW X e t) : PT X e t := h _
def PA (X : Cx) (es : List Expr) (t : TA) : Prop :=
  ∀ (pos : Pos) (pins : List (Addr × Obj)) (s : Shared) (σ : St) (H : Hp) (Q : List V → Hp → Prop), Inv X pins σ H s → t σ H Q → wpAny (model X.prog X.w) X.A (spliced (backTo pos (starEach es X.env))) (AP X pins σ Q) X.xe s
def PS (X : Cx) (st : Stmt) (t : TS) : Prop :=
  ∀ (pins : List (Addr × Obj)) (s : Shared) (σ : St) (H : Hp) (D : Ends), Inv X pins σ H s → t D σ H → wpAny (model X.prog X.w) X.A (exec st X.env) (SP X pins D) X.xe s
def PSs (X : Cx) (st : List Stmt) (t : TS) : Prop :=
  ∀ (pins : List (Addr × Obj)) (s : Shared) (σ : St) (H : Hp) (D : Ends), Inv X pins σ H s → t D σ H → wpAny (model X.prog X.w) X.A (execs st X.env) (SP X pins D) X.xe s
theorem thn {α : Type} {t : Sem α} {Q Q' : α → Shared → Prop} {M : Model} {A : Around} {E : Value → Shared → Prop} {s : Shared} (h : wpAny M A t Q E s) (hQ : ∀ a s, Q a s → Q' a s) : wpAny M A t Q' E s := wpAny_mono h hQ fun _ _ x => x
end L2

namespace L2
open PySem PySem.Spec PyProof.Rows
section
variable {X : Cx}

/-! ### names and constants -/
def tVar (i : Nat) : TE := fun σ H Q => ∃ v, σ[i]? = some (some v) ∧ Q v H
def tC (v : V) : TE := fun _ H Q => Q v H
theorem pe_var {i : Nat} {x : Str} {pos : Pos} (hN : X.N[i]? = some x) (hv : Vis X.env.scope x) (hd : (x == ("__debug__" : Str)) = false := by decide) (hcd : (x == ("__classdict__" : Str)) = false := by decide) : PE X (.Name x pos) (tVar i) := by
  intro pins s σ H Q I h
  obtain ⟨v, e, h⟩ := h
  obtain ⟨m, hn, hl⟩ := I.loc
  obtain ⟨u, r, l⟩ := hl i x v hN e hv
  have fin : EP X pins σ Q u s := ⟨v, H, I, r, h⟩
  rcases l with ⟨hk, hm⟩ | ⟨hk, c, hc, hcell⟩
  · exact wpAny_Name (wpAny_loadName_local I.ok.kind hk hn hm fin) hd
  · rcases hk with hk | hk
    · exact wpAny_Name (wpAny_loadName_cell I.ok.kind hk hc hcell fin) hd
    · exact wpAny_Name (wpAny_loadName_free I.ok.kind hk hc hcell fin hcd) hd
theorem pe_int {i j pos} : PE X (.Constant (.int i) j pos) (tC (.int i)) := fun _ _ _ H _ I h => wpAny_Constant_int ⟨.int i, H, I.tok _, ⟨_, rfl⟩, h⟩
theorem pe_bl {b j pos} : PE X (.Constant (.bool b) j pos) (tC (.bl b)) := fun _ _ _ H _ I h => Constant_bool ⟨.bl b, H, I, rfl, h⟩
theorem pe_non {j pos} : PE X (.Constant .none j pos) (tC .non) := fun _ _ _ H _ I h => Constant_none ⟨.non, H, I, rfl, h⟩
theorem pe_str {x j pos} : PE X (.Constant (.str x) j pos) (tC (.str x)) := fun _ _ _ H _ I h => Calls.Constant_str ⟨.str x, H, I.tok _, ⟨_, rfl⟩, h⟩

def Gl (X : Cx) (x : Str) : Prop := X.env.kindOf x = some .globalImplicit
theorem ld_glob {E : Value → Shared → Prop} {pins : List (Addr × Obj)} {s : Shared} {σ : St} {H : Hp} {x : Str} {u : Value} {pos : Pos} {Q : Value → Shared → Prop} (I : Inv X pins σ H s) (hg : Gl X x) (hm : X.mg x = some u) (h : Q u s)
    (hd : (x == ("__debug__" : Str)) = false := by decide) : wpAny (model X.prog X.w) X.A (eval (.Name x pos) X.env) Q E s :=
  Calls.Name_function_global I.ok.kind hg (Calls.loadGlobal_global (by rw [I.ok.glob]; exact I.mod.glob.keeps I.bk) hm h) hd
theorem ld_blt {E : Value → Shared → Prop} {pins : List (Addr × Obj)} {s : Shared} {σ : St} {H : Hp} {x : Str} {u : Value} {pos : Pos} {Q : Value → Shared → Prop} (I : Inv X pins σ H s) (hg : Gl X x) (hm : X.mg x = none) (hv : bootBuiltins x = some u) (h : Q u s)
    (hn : x ≠ "__name__" := by decide) (hd : (x == ("__debug__" : Str)) = false := by decide) : wpAny (model X.prog X.w) X.A (eval (.Name x pos) X.env) Q E s := by
  obtain ⟨mb, h1, h2⟩ := I.mod.blt
  exact Calls.Name_function_global I.ok.kind hg (Calls.loadGlobal_builtin (by rw [I.ok.glob]; exact I.mod.glob.keeps I.bk) hm (by rw [I.ok.blt]; exact h1.keeps I.bk) ((h2 x hn).trans hv) h) hd
theorem pe_glob {x : Str} {v : V} {u : Value} {pos : Pos} (hg : Gl X x) (hm : X.mg x = some u) (r : RelV v u) (hd : (x == ("__debug__" : Str)) = false := by decide) : PE X (.Name x pos) (tC v) :=
  fun _ _ _ H _ I h => ld_glob I hg hm ⟨v, H, I, r, h⟩ hd
theorem pe_bltn {x : Str} {v : V} {u : Value} {pos : Pos} (hg : Gl X x) (hm : X.mg x = none) (hv : bootBuiltins x = some u) (r : RelV v u) (hn : x ≠ "__name__" := by decide) (hd : (x == ("__debug__" : Str)) = false := by decide) : PE X (.Name x pos) (tC v) :=
  fun _ _ _ H _ I h => ld_blt I hg hm hv ⟨v, H, I, r, h⟩ hn hd

/-! ### arithmetic -/
variable {a b : Expr} {ta tb : TE} {pos : Pos}
/-! ### comparisons -/
def tB (t : TE) : TT := fun σ H Q => t σ H fun x H1 => ∃ c, x = .bl c ∧ Q c H1
theorem pt_val {e : Expr} {t : TE} (h : PE X e t) (he : ∀ whole, isTrue e X.env whole = (do let v ← whole; standAt e.pos; holding [v] (truthy v)) := by intro _; rfl) : PT X e (tB t) := by
  intro pins s σ H Q I hw
  refine isTrue_plain (thn (h pins s σ H _ I hw) fun v s1 ⟨x, H1, I1, r1, q1⟩ => ?_) (he _)
  obtain ⟨d, rfl, q⟩ := q1
  cases r1
  exact wpAny_truthy_bool ⟨H1, I1, q⟩

/-! ### and, or, not -/
variable {tA tB' : TT} {rest : List Expr}
def tAnd (t u : TT) : TT := fun σ H Q => t σ H fun c H1 => if c = true then u σ H1 Q else Q false H1
def tOr (t u : TT) : TT := fun σ H Q => t σ H fun c H1 => if c = true then Q true H1 else u σ H1 Q
def tNot (t : TT) : TT := fun σ H Q => t σ H fun c H1 => Q (!c) H1
theorem pw_and1 (ha : PT X a tA) : PW X (.BoolOp .And [a] pos) tA := by
  intro wh pins s σ H Q I h
  refine isTrue_and (thn (ha pins s σ H Q I h) fun c s1 e => ?_)
  cases c with
  | true => exact isTrue_and_nil e
  | false => exact e
theorem pw_or1 (ha : PT X a tA) : PW X (.BoolOp .Or [a] pos) tA := by
  intro wh pins s σ H Q I h
  refine isTrue_or (thn (ha pins s σ H Q I h) fun c s1 e => ?_)
  cases c with
  | false => exact isTrue_or_nil e
  | true => exact e
theorem pw_and (ha : PT X a tA) (hb : PW X (.BoolOp .And (b :: rest) pos) tB') : PW X (.BoolOp .And (a :: b :: rest) pos) (tAnd tA tB') := by
  intro wh pins s σ H Q I h
  refine isTrue_and (thn (ha pins s σ H _ I h) fun c s1 ⟨H1, I1, q1⟩ => ?_)
  cases c with
  | true => exact hb wh pins s1 σ H1 Q I1 q1
  | false => exact ⟨H1, I1, q1⟩
theorem pw_or (ha : PT X a tA) (hb : PW X (.BoolOp .Or (b :: rest) pos) tB') : PW X (.BoolOp .Or (a :: b :: rest) pos) (tOr tA tB') := by
  intro wh pins s σ H Q I h
  refine isTrue_or (thn (ha pins s σ H _ I h) fun c s1 ⟨H1, I1, q1⟩ => ?_)
  cases c with
  | true => exact ⟨H1, I1, q1⟩
  | false => exact hb wh pins s1 σ H1 Q I1 q1
theorem pt_not (ha : PT X a tA) : PT X (.UnaryOp .Not a pos) (tNot tA) := by
  intro pins s σ H Q I h
  exact isTrue_not (ha pins s σ H (fun c H1 => Q (!c) H1) I h)
def tAndV (ta tb : TE) : TE := fun σ H Q => ta σ H fun x H1 => ∃ c, x = .bl c ∧ if c = true then tb σ H1 Q else Q (.bl false) H1
def tOrV (ta tb : TE) : TE := fun σ H Q => ta σ H fun x H1 => ∃ c, x = .bl c ∧ if c = true then Q (.bl true) H1 else tb σ H1 Q
def tNotV (ta : TE) : TE := fun σ H Q => ta σ H fun x H1 => ∃ c, x = .bl c ∧ Q (.bl (!c)) H1
theorem pe_one {op} {t : TE} (h : PE X a t) : PE X (.BoolOp op [a] pos) t := fun pins s σ H Q I hw => BoolOp_one (h pins s σ H Q I hw)
theorem pe_and (ha : PE X a ta) (hb : PE X (.BoolOp .And (b :: rest) pos) tb) : PE X (.BoolOp .And (a :: b :: rest) pos) (tAndV ta tb) := by
  intro pins s σ H Q I h
  refine BoolOp_and (thn (ha pins s σ H _ I h) fun v s1 ⟨x, H1, I1, r1, q1⟩ => ?_)
  obtain ⟨c, rfl, q1⟩ := q1
  cases r1
  refine wpAny_truthy_bool ?_
  cases c with
  | true => exact hb pins s1 σ H1 Q I1 q1
  | false => exact ⟨.bl false, H1, I1, rfl, q1⟩
theorem pe_or (ha : PE X a ta) (hb : PE X (.BoolOp .Or (b :: rest) pos) tb) : PE X (.BoolOp .Or (a :: b :: rest) pos) (tOrV ta tb) := by
  intro pins s σ H Q I h
  refine BoolOp_or (thn (ha pins s σ H _ I h) fun v s1 ⟨x, H1, I1, r1, q1⟩ => ?_)
  obtain ⟨c, rfl, q1⟩ := q1
  cases r1
  refine wpAny_truthy_bool ?_
  cases c with
  | false => exact hb pins s1 σ H1 Q I1 q1
  | true => exact ⟨.bl true, H1, I1, rfl, q1⟩
theorem pe_not (ha : PE X a ta) : PE X (.UnaryOp .Not a pos) (tNotV ta) := by
  intro pins s σ H Q I h
  refine UnaryOp_ (thn (ha pins s σ H _ I h) fun v s1 ⟨x, H1, I1, r1, q1⟩ => ?_)
  obtain ⟨c, rfl, q1⟩ := q1
  cases r1
  exact not_of (wpAny_truthy_bool ⟨.bl (!c), H1, I1, rfl, q1⟩)
end
end L2

namespace L2
open PySem PySem.Spec PyProof.Rows

/-! ### a list, a tuple that is read: tracked, frozen, or an object of the module -/
def SqL (K : PySem.W.Frag) (H : Hp) (a : Addr) (xs : List V) : Prop :=
  Rd H a (.lst xs) ∨
    ∃ (o : Obj) (its : Array Value) (n : Nat), K.lookup a = some o ∧ o.cls = .type "list" ∧ o.dict = none ∧ o.data = .seq its n ∧ its.size ≤ sizeLine ∧ Vals xs its.toList
def SqT (K : PySem.W.Frag) (H : Hp) (a : Addr) (xs : List V) : Prop :=
  Rd H a (.tup xs) ∨
    ∃ (o : Obj) (its : Array Value) (n : Nat), K.lookup a = some o ∧ o.cls = .type "tuple" ∧ o.data = .seq its n ∧ its.size ≤ sizeLine ∧ Vals xs its.toList
def absV : Value → Option V
  | .none => some .non
  | .bool b => some (.bl b)
  | .int i _ => some (.int i)
  | .str x _ => some (.str x)
  | .bytes b _ => some (.byt b)
  | .float b _ => some (.flt b)
  | .ref a => some (.ref a)
  | .type n => some (.ty n)
  | _ => none
theorem RelV.abs {x : V} {u : Value} (r : RelV x u) : absV u = some x := by
  cases x with
  | non => cases r; rfl
  | bl _ => cases r; rfl
  | int _ => obtain ⟨t, rfl⟩ := r; rfl
  | str _ => obtain ⟨t, rfl⟩ := r; rfl
  | byt _ => obtain ⟨t, rfl⟩ := r; rfl
  | flt _ => obtain ⟨t, rfl⟩ := r; rfl
  | ref _ => cases r; rfl
  | ty _ => cases r; rfl
theorem RelV.inj {x y : V} {u : Value} (r : RelV x u) (q : RelV y u) : x = y := Option.some.inj (r.abs.symm.trans q.abs)
theorem Vals.inj : ∀ {xs ys : List V} {us : List Value}, Vals xs us → Vals ys us → xs = ys
  | _, _, _, .nil, .nil => rfl
  | _, _, _, .cons r t, .cons r' t' => by rw [r.inj r', Vals.inj t t']
section
variable {X : Cx} {pins : List (Addr × Obj)} {σ : St} {H : Hp} {s : Shared} {a : Addr} {xs ys : List V}
theorem SqL.of {K : PySem.W.Frag} (h : H a = some (.lst xs)) : SqL K H a xs := .inl (.inl h)
theorem SqT.of {K : PySem.W.Frag} (h : H a = some (.tup xs)) : SqT K H a xs := .inl (.inl h)
theorem Inv.list (I : Inv X pins σ H s) (h : SqL X.K H a xs) : ∃ its : List Value, Vals xs its ∧ PlainL s.heap a its.toArray ∧ xs.length ≤ sizeLine := by
  rcases h with h | ⟨o, its, n, hk, hc, hd, hs, hz, r⟩
  · obtain ⟨z, its, n, r, e⟩ := h.ok I.hok
    exact ⟨its, r, ⟨_, n, e, rfl, rfl, rfl⟩, z⟩
  · refine ⟨its.toList, r, ⟨o, n, I.kIn a o hk, hc, hd, by simpa using hs⟩, ?_⟩
    have e := r.length
    simp only [Array.length_toList] at e
    omega
theorem Inv.tuple (I : Inv X pins σ H s) (h : SqT X.K H a xs) : ∃ its : List Value, Vals xs its ∧ IsTup s.heap a its.toArray ∧ xs.length ≤ sizeLine := by
  rcases h with h | ⟨o, its, n, hk, hc, hs, hz, r⟩
  · obtain ⟨z, its, r, p⟩ := h.ok I.hok
    exact ⟨its, r, p, z⟩
  · refine ⟨its.toList, r, ⟨o, I.kIn a o hk, hc, n, by simpa using hs⟩, ?_⟩
    have e := r.length
    simp only [Array.length_toList] at e
    omega
theorem Inv.list_inj (I : Inv X pins σ H s) (h : SqL X.K H a xs) (h' : SqL X.K H a ys) : xs = ys := by
  obtain ⟨its, r, ⟨o, n, e, _, _, d⟩, _⟩ := I.list h
  obtain ⟨its', r', ⟨o', n', e', _, _, d'⟩, _⟩ := I.list h'
  rw [e] at e'; cases e'
  rw [d] at d'
  injection d' with d1 _
  have : its = its' := by simpa using congrArg Array.toList d1
  subst this
  exact r.inj r'
theorem Inv.tuple_inj (I : Inv X pins σ H s) (h : SqT X.K H a xs) (h' : SqT X.K H a ys) : xs = ys := by
  obtain ⟨its, r, ⟨o, e, _, n, d⟩, _⟩ := I.tuple h
  obtain ⟨its', r', ⟨o', e', _, n', d'⟩, _⟩ := I.tuple h'
  rw [e] at e'; cases e'
  rw [d] at d'
  injection d' with d1 _
  have : its = its' := by simpa using congrArg Array.toList d1
  subst this
  exact r.inj r'
end

/-! ### another wish about exceptions -/
abbrev Cx.wish (X : Cx) (E : Value → Shared → Prop) : Cx := { X with xe := E }
abbrev Cx.nox (X : Cx) : Cx := X.wish fun _ _ => False
theorem Cx.Ok.wish {X : Cx} (ok : X.Ok) (E : Value → Shared → Prop) : (X.wish E).Ok :=
  ⟨ok.mod, ok.kind, ok.glob, ok.blt, ok.above, ok.inj, ok.has, ok.cab, ok.hd, ok.frames, ok.stk, ok.exf, ok.bs, ok.bsz, ok.noex, ok.exfs, ok.funs, ok.frf⟩
theorem Cx.Ok.unwish {X : Cx} {E : Value → Shared → Prop} (ok : (X.wish E).Ok) : X.Ok :=
  ⟨ok.mod, ok.kind, ok.glob, ok.blt, ok.above, ok.inj, ok.has, ok.cab, ok.hd, ok.frames, ok.stk, ok.exf, ok.bs, ok.bsz, ok.noex, ok.exfs, ok.funs, ok.frf⟩
section
variable {X : Cx} {pins : List (Addr × Obj)} {σ : St} {H : Hp} {s : Shared} {E : Value → Shared → Prop}
theorem Inv.wish (I : Inv X pins σ H s) (E : Value → Shared → Prop) : Inv (X.wish E) pins σ H s := ⟨I.ok.wish E, I.os, I.bare, I.base, I.loc, I.cell, I.free, I.freeC, I.pin, I.hok, I.len⟩
theorem Inv.unwish (I : Inv (X.wish E) pins σ H s) : Inv X pins σ H s := ⟨I.ok.unwish, I.os, I.bare, I.base, I.loc, I.cell, I.free, I.freeC, I.pin, I.hok, I.len⟩
theorem SP.unwish {D : Ends} {f : Flow} {s' : Shared} (h : SP (X.wish E) pins D f s') : SP X pins D f s' := by
  cases f with
  | next => obtain ⟨σ', H', I, q⟩ := h; exact ⟨σ', H', I.unwish, q⟩
  | brk => obtain ⟨σ', H', I, q⟩ := h; exact ⟨σ', H', I.unwish, q⟩
  | cont => obtain ⟨σ', H', I, q⟩ := h; exact ⟨σ', H', I.unwish, q⟩
  | ret u => obtain ⟨v, σ', H', I, r, q⟩ := h; exact ⟨v, σ', H', I.unwish, r, q⟩
theorem PSs.nox {st : List Stmt} {t : TS} (h : PSs X.nox st t) : PSs X st t := fun pins s σ H D I hw =>
  wpAny_mono (h pins s σ H D (I.wish _) hw) (fun _ _ q => q.unwish) fun _ _ z => False.elim z
end

/-! ### blocks and small statements -/
section
variable {X : Cx} {st : Stmt} {rest : List Stmt} {t u : TS} {e : Expr} {te : TE} {pos : Pos}
def tNext : TS := fun D σ H => D.nx σ H
def tSeq (t u : TS) : TS := fun D σ H => t { D with nx := u D } σ H
theorem pss_nil : PSs X [] tNext := fun _ _ σ H _ I h => wpAny_execs_nil ⟨σ, H, I, h⟩
theorem pss_cons (h1 : PS X st t) (h2 : PSs X rest u) : PSs X (st :: rest) (tSeq t u) := by
  intro pins s σ H D I h
  refine wpAny_execs_cons (thn (h1 pins s σ H { D with nx := u D } I h) fun f s1 q => ?_)
  cases f with
  | next =>
    obtain ⟨σ', H', I', q⟩ := q
    exact h2 pins s1 σ' H' D I' q
  | ret v => exact q
  | brk => exact q
  | cont => exact q
theorem pss_one (h1 : PS X st t) : PSs X [st] t := by
  intro pins s σ H D I h
  refine wpAny_execs_cons (thn (h1 pins s σ H D I h) fun f s1 q => ?_)
  cases f with
  | next => exact wpAny_execs_nil q
  | ret v => exact q
  | brk => exact q
  | cont => exact q
theorem Inv.quiet {pins : List (Addr × Obj)} {σ : St} {H : Hp} {s : Shared} (I : Inv X pins σ H s) : interactive X.env = false := by simp [interactive, I.ok.kind]
def tDrop (te : TE) : TS := fun D σ H => te σ H fun _ H1 => D.nx σ H1
theorem ps_expr (he : PE X e te) (hs : swapsWith e none pos.line X.env = pure false := by rfl) : PS X (.Expr e pos) (tDrop te) := by
  intro pins s σ H D I h
  exact wpAny_Expr_any (thn (he pins s σ H _ I h) fun v s1 ⟨x, H1, I1, r1, q1⟩ => ⟨σ, H1, I1, q1⟩) I.quiet hs
def tRet (te : TE) : TS := fun D σ H => te σ H D.rt
theorem ps_ret (he : PE X e te) : PS X (.Return (some e) pos) (tRet te) := by
  intro pins s σ H D I h
  exact wpAny_Return_some (thn (he pins s σ H _ I h) fun v s1 ⟨x, H1, I1, r1, q1⟩ => ⟨x, σ, H1, I1, r1, q1⟩)
def tIfS (c : TT) (t u : TS) : TS := fun D σ H => c σ H fun b H1 => if b = true then t D σ H1 else u D σ H1
theorem ps_if {c : Expr} {a b : List Stmt} {tc : TT} (hc : PT X c tc) (ha : PSs X a t) (hb : PSs X b u) : PS X (.If c a b pos) (tIfS tc t u) := by
  intro pins s σ H D I h
  refine wpAny_If (thn (hc pins s σ H _ I h) fun d s1 ⟨H1, I1, q1⟩ => ?_)
  cases d with
  | true => exact ha pins s1 σ H1 D I1 q1
  | false => exact hb pins s1 σ H1 D I1 q1
end

/-! ### targets -/
abbrev TG := V → St → Hp → (St → Hp → Prop) → Prop
def PG (X : Cx) (target : Expr) (t : TG) : Prop :=
  ∀ (pins : List (Addr × Obj)) (s : Shared) (σ : St) (H : Hp) (v : V) (u : Value) (Q : St → Hp → Prop), Inv X pins σ H s → RelV v u → t v σ H Q →
    wpAny (model X.prog X.w) X.A (assign target X.env u) (fun _ s' => ∃ σ' H', Inv X pins σ' H' s' ∧ Q σ' H') X.xe s
abbrev TSet := V → V → V → Hp → (Hp → Prop) → Prop
def PSet (X : Cx) (t : TSet) : Prop :=
  ∀ (pins : List (Addr × Obj)) (s : Shared) (σ : St) (H : Hp) (o i v : V) (ov iv u : Value) (Q : Hp → Prop), Inv X pins σ H s → RelV o ov → RelV i iv → RelV v u → t o i v H Q →
    wpAny (model X.prog X.w) X.A (setItem ov iv u) (fun _ s' => ∃ H', Inv X pins σ H' s' ∧ Q H') X.xe s
section
variable {X : Cx} {pos : Pos}
def gName (i : Nat) : TG := fun v σ H Q => Q (σ.set i (some v)) H
theorem pg_name {i : Nat} {x : Str} (hN : X.N.Nodup) (hi : X.N[i]? = some x) (hx : Loc X.env.scope x) (hf : X.fn x = true ∨ X.env.scope.names.lookup x = some .local := by first | exact .inl rfl | exact .inr rfl | assumption) : PG X (.Name x pos) (gName i) := by
  intro pins s σ H v u Q I r h
  exact wpAny_assign_Name (store_ok I hN hi hx r (fun s' I' => ⟨_, H, I', h⟩) hf)
def gSub (to ti : TE) (t : TSet) : TG := fun v σ H Q => to σ H fun o H1 => ti σ H1 fun i H2 => t o i v H2 fun H3 => Q σ H3
theorem pg_sub {o i : Expr} {to ti : TE} {t : TSet} (ho : PE X o to) (hi : PE X i ti) (hs : PSet X t)
    (ha : ∀ v, assign (.Subscript o i pos) X.env v = (do
      let ov ← holding [v] (eval o X.env)
      let iv ← holding [v, ov] (eval i X.env)
      standAt pos
      holding [v, ov, iv] (setItem ov iv v)
      release [v, ov, iv] []) := by intro _; rfl) : PG X (.Subscript o i pos) (gSub to ti t) := by
  intro pins s σ H v u Q I r h
  rw [ha]
  refine wpAny_bind (wpAny_holding (thn (ho pins s σ H _ I h) fun ov s1 ⟨x, H1, I1, r1, q1⟩ => ?_))
  refine wpAny_bind (wpAny_holding (thn (hi pins s1 σ H1 _ I1 q1) fun iv s2 ⟨y, H2, I2, r2, q2⟩ => ?_))
  refine wpAny_bind (wpAny_standAt (wpAny_bind (wpAny_holding (thn (hs pins s2 σ H2 x y v ov iv u _ I2 r1 r2 r q2) fun _ s3 ⟨H3, I3, q3⟩ => ?_))))
  exact wpAny_release ⟨σ, H3, I3, q3⟩
def tAsg (te : TE) (g : TG) : TS := fun D σ H => te σ H fun x H1 => g x σ H1 D.nx
theorem ps_asg {tg e : Expr} {te : TE} {g : TG} (he : PE X e te) (hg : PG X tg g) (hs : swapsWithSole [tg] e pos.line X.env = pure false := by rfl) (hw : swappedStores [tg] e X.env = pure none := by rfl)
    (h1 : (assignEach [tg] X.env).map (·.2) = [assign tg X.env] := by rfl) : PS X (.Assign [tg] e pos) (tAsg te g) := by
  intro pins s σ H D I h
  refine wpAny_Assign_stores (thn (he pins s σ H _ I h) fun v s1 ⟨x, H1, I1, r1, q1⟩ => ?_) hs hw
  rw [h1]
  exact thn (hg pins s1 σ H1 x v _ I1 r1 q1) fun _ s2 q => q
theorem ps_set {i : Nat} {x : Str} {e : Expr} {te : TE} {pos' : Pos} (hN : X.N.Nodup) (hi : X.N[i]? = some x) (hx : Loc X.env.scope x) (he : PE X e te) (hs : swapsWith e (some (.Name x pos')) pos.line X.env = pure false := by rfl) (hf : X.fn x = true ∨ X.env.scope.names.lookup x = some .local := by first | exact .inl rfl | exact .inr rfl | assumption) :
    PS X (.Assign [.Name x pos'] e pos) (tAsg te (gName i)) := by
  intro pins s σ H D I h
  refine wpAny_Assign_Name (thn (he pins s σ H _ I h) fun v s1 ⟨y, H1, I1, r1, q1⟩ => ?_) hs
  exact store_ok I1 hN hi hx r1 (fun s2 I2 => ⟨_, H1, I2, q1⟩) hf
end

/-! ### while -/
section
variable {X : Cx} {pos : Pos}
end

/-! ### what a loop or a comprehension walks -/
structure It where
  go : Nat → Hp → Prop
  yld : Nat → Hp → V → Hp → Prop
  stop : Nat → Hp → Prop
def FpOk (X : Cx) (pins : List (Addr × Obj)) (H : Hp) (b : Addr) : Prop :=
  H b = none ∧ b ≠ X.env.locals ∧ b ∉ X.fs ∧ (b ∈ X.ex ∨ X.s₀.heap.objs.size ≤ b) ∧ (∀ x c, X.env.cells.lookup x = some c → c ≠ b) ∧ ∀ p ∈ X.pn ++ pins, p.1 ≠ b
theorem Inv.fpOk {X : Cx} {pins : List (Addr × Obj)} {σ : St} {H H' : Hp} {s : Shared} {b : Addr} (I : Inv X pins σ H s) (hb : s.heap.objs.size ≤ b) (hn : H' b = none) : FpOk X pins H' b := by
  refine ⟨hn, Nat.ne_of_gt (Nat.lt_of_lt_of_le I.lt hb), I.nofs hb, .inr (Nat.le_trans I.sz hb), fun x c e z => ?_, fun p hp z => ?_⟩
  · obtain ⟨v, q⟩ := I.cell x c e
    exact absurd (Nat.lt_of_lt_of_le q.lt (by rw [z]; exact hb)) (Nat.lt_irrefl _)
  · exact absurd (Nat.lt_of_lt_of_le (Heap.lt_size (I.pin p hp).1) (by rw [z]; exact hb)) (Nat.lt_irrefl _)
structure Turn (P : Program) (w : World) (K : PySem.W.Frag) (tg : Expr) (J : It) (fp : List Addr) (it : Addr) (tn : Nat → Heap → Prop) : Prop where
  mem : it ∈ fp
  obj : ∀ i h, tn i h → ∀ b ∈ fp, ∃ o, h.get? b = some o ∧ ∀ v, o.data ≠ .cell v
  keep : ∀ i h h', tn i h → (∀ b ∈ fp, ∀ o, h.get? b = some o → h'.get? b = some o) → tn i h'
  item : ∀ (X : Cx), X.prog = P → X.w = w → X.K = K → X.calm = true → ∀ (i : Nat) (pins : List (Addr × Obj)) (s : Shared) (σ : St) (H : Hp) (E : Value → Shared → Prop), Inv X pins σ H s → (∀ b ∈ fp, FpOk X pins H b) → tn i s.heap → J.go i H →
    wpAny (model P w) X.A (pyNext (.ref it)) (fun r s1 => ∃ u, r = some u ∧
      wpAny (model P w) X.A (letOwnedTupleGo tg (.ref it) u) (fun _ s2 => ∃ x H', Inv X pins σ H' s2 ∧ RelV x u ∧ J.yld i H x H' ∧ tn (i + 1) s2.heap ∧ ∀ b ∈ fp, H' b = none) E s1) E s
  done : ∀ (X : Cx), X.prog = P → X.w = w → X.K = K → X.calm = true → ∀ (i : Nat) (pins : List (Addr × Obj)) (s : Shared) (σ : St) (H : Hp) (E : Value → Shared → Prop), Inv X pins σ H s → (∀ b ∈ fp, FpOk X pins H b) → tn i s.heap → J.stop i H →
    wpAny (model P w) X.A (pyNext (.ref it)) (fun r s1 => r = none ∧ Inv X pins σ H s1) E s
  self : ∀ (A : Around) (i : Nat) (s : Shared) (Q : Value → Shared → Prop) (E : Value → Shared → Prop), tn i s.heap → Q (.ref it) s → wpAny (model P w) A (pyIter (.ref it)) Q E s
abbrev TI := St → Hp → (It → Hp → Prop) → Prop
def PIE (X : Cx) (pins : List (Addr × Obj)) (σ : St) (tg : Expr) (R : It → Hp → Prop) (itv : Value) (s2 : Shared) : Prop :=
  ∃ (it : Addr) (fp : List Addr) (tn : Nat → Heap → Prop) (J : It) (H' : Hp), itv = .ref it ∧ Inv X pins σ H' s2 ∧ Turn X.prog X.w X.K tg J fp it tn ∧ tn 0 s2.heap ∧ (∀ b ∈ fp, FpOk X pins H' b) ∧ R J H'
def PI (X : Cx) (tg iter : Expr) (wi : TI) : Prop :=
  ∀ (pins : List (Addr × Obj)) (s : Shared) (σ : St) (H : Hp) (R : It → Hp → Prop), Inv X pins σ H s → wi σ H R →
    wpAny (model X.prog X.w) X.A (eval iter X.env) (fun v s1 => wpAny (model X.prog X.w) X.A (pyIter v) (PIE X pins σ tg R) X.xe s1) X.xe s

theorem go_of {M : Model} {A : Around} {E : Value → Shared → Prop} {s : Shared} {tg : Expr} {it : Addr} {u : Value} {o : Obj} {n : String} {vs : Array Value} {Q : Unit → Shared → Prop} (ho : s.heap.get? it = some o) (hc : o.cls = .type n) (hd : o.data = .fields vs)
    (hn : ["enumerate", "zip", "dict_itemiterator", "dict_reverseitemiterator", "odict_iterator", "itertools.zip_longest", "itertools.pairwise"].contains n = false) (hQ : Q () s) : wpAny M A (letOwnedTupleGo tg (.ref it) u) Q E s := by
  unfold letOwnedTupleGo
  cases tg <;> first
    | exact wpAny_pure hQ
    | (cases u <;> first
        | exact wpAny_pure hQ
        | (refine wpAny_bind (wpAny_load ho ?_)
           rw [hc, hd]
           show wpAny M A (if (["enumerate", "zip", "dict_itemiterator", "dict_reverseitemiterator", "odict_iterator", "itertools.zip_longest", "itertools.pairwise"].contains n && vs[0]? == some (rawInt _)) = true then _ else _) Q E s
           rw [if_neg (by intro h; rw [hn, Bool.false_and] at h; cases h)]
           exact wpAny_pure hQ))

def Itl (K : PySem.W.Frag) (a : Addr) : It :=
  ⟨fun i H => ∃ xs x, SqL K H a xs ∧ xs[i]? = some x, fun i H x H' => H' = H ∧ ∀ xs, SqL K H a xs → xs[i]? = some x, fun i H => ∃ xs, SqL K H a xs ∧ xs.length ≤ i⟩
def Itr (lo : Int) (n : Nat) : It := ⟨fun i _ => i < n, fun i H x H' => H' = H ∧ x = .int (lo + i), fun i _ => n ≤ i⟩
theorem turn_list {P : Program} {w : World} {K : PySem.W.Frag} {tg : Expr} (a it : Addr) : Turn P w K tg (Itl K a) [it] it (fun i h => h.IsListIter it a i) where
  mem := by simp
  obj := fun i h st b hb => by
    have e : b = it := by simpa using hb
    subst e
    obtain ⟨o, e, c, d⟩ := st
    exact ⟨o, e, fun v z => by rw [d] at z; cases z⟩
  keep := fun i h h' st k => st.at fun o e => k it (by simp) o e
  item := by
    intro X hP hw hK hc i pins s σ H E I hf st hg
    subst hP hw hK
    obtain ⟨xs, x, hq, hx⟩ := hg
    obtain ⟨its, rv, p, hz⟩ := I.list hq
    obtain ⟨u, hu, ru⟩ := rv.get hx
    obtain ⟨f0, f1, f2, f3, f4, f5⟩ := hf it (by simp)
    refine wpAny_pyNext_list_item st p.isList (x := u) (by simpa using hu) fun h' st' sb => ?_
    have I1 : Inv X pins σ H { s with heap := h' } := I.turned (t' := s.toks) (fun b o hb e => (sb.2 b hb).trans e) f0 f1 f3 f4 f5
    obtain ⟨o, e, c, d⟩ := id st'
    exact ⟨u, rfl, go_of (s := { s with heap := h' }) e c d (by decide) ⟨x, H, I1, ru, ⟨rfl, fun ys hy => by rw [I.list_inj hy hq]; exact hx⟩, st', fun b hb => (hf b hb).1⟩⟩
  done := by
    intro X hP hw hK hc i pins s σ H E I hf st hg
    subst hP hw hK
    obtain ⟨xs, hq, hx⟩ := hg
    obtain ⟨its, rv, p, hz⟩ := I.list hq
    obtain ⟨f0, f1, f2, f3, f4, f5⟩ := hf it (by simp)
    have hl := rv.length
    exact wpAny_pyNext_list_end (I.ok.hd hc) st p.isList (by simp; omega) fun h' eb => ⟨rfl, I.turned (t' := s.toks) (fun b o hb e => eb b o hb e) f0 f1 f3 f4 f5⟩
  self := fun _ _ _ _ _ st h => wpAny_pyIter_listiter st h
theorem turn_range {P : Program} {w : World} {K : PySem.W.Frag} {tg : Expr} (it : Addr) (lo : Int) (n : Nat) : Turn P w K tg (Itr lo n) [it] it (fun i h => IsRangeIter h it (lo + (i : Nat) * 1) ((n : Int) - (i : Nat)) 1) where
  mem := by simp
  obj := fun i h st b hb => by
    have e : b = it := by simpa using hb
    subst e
    exact ⟨_, st, fun v z => by
      have z' : Data.fields _ = Data.cell v := z
      cases z'⟩
  keep := fun i h h' st k => k it (by simp) _ st
  item := by
    intro X hP hw hK hc i pins s σ H E I hf st hg
    subst hP hw hK
    obtain ⟨f0, f1, f2, f3, f4, f5⟩ := hf it (by simp)
    have W := Walks.range (prog := X.prog) (w := X.w) (I.ok.hd hc) it lo 1 n
    refine W.item i s _ _ hg st fun v h' tk hv st' kk => ?_
    obtain ⟨t, rfl⟩ := hv
    have I1 : Inv X pins σ H { s with heap := h', toks := tk } := I.turned (fun b o hb e => kk b o (by simpa using hb) e) f0 f1 f3 f4 f5
    refine ⟨_, rfl, go_of (s := { s with heap := h', toks := tk }) (n := "range_iterator") st' rfl rfl (by decide) ⟨.int (lo + i), H, I1, ⟨t, ?_⟩, ⟨rfl, rfl⟩, st', fun b hb => (hf b hb).1⟩⟩
    rw [Int.mul_one]
  done := by
    intro X hP hw hK hc i pins s σ H E I hf st hg
    subst hP hw hK
    obtain ⟨f0, f1, f2, f3, f4, f5⟩ := hf it (by simp)
    exact wpAny_pyNext_range_end (I.ok.hd hc) st (by have : n ≤ i := hg; omega) fun h' eb => ⟨rfl, I.turned (t' := s.toks) (fun b o hb e => eb b o hb e) f0 f1 f3 f4 f5⟩
  self := fun _ _ _ _ _ st h => wpAny_pyIter_rangeiter st h
end L2

namespace L2
open PySem PySem.Spec PyProof.Rows
section
variable {X : Cx} {tg : Expr}
def iList (K : PySem.W.Frag) (tl : TE) : TI := fun σ H R => tl σ H fun x H1 => ∃ a, x = .ref a ∧ (∃ xs, SqL K H1 a xs) ∧ R (Itl K a) H1
theorem pi_list {l : Expr} {tl : TE} (hl : PE X l tl) : PI X tg l (iList X.K tl) := by
  intro pins s σ H R I h
  refine thn (hl pins s σ H _ I h) fun v s1 ⟨x, H1, I1, r1, q1⟩ => ?_
  obtain ⟨a, e, ⟨xs, hq⟩, q⟩ := q1
  subst e
  cases r1
  obtain ⟨its, rv, p, hz⟩ := I1.list hq
  refine wpAny_pyIter_list p.isList ?_
  refine ⟨s1.heap.objs.size, [s1.heap.objs.size], _, _, H1, rfl, I1.kept (t' := s1.toks) fun b o e => Heap.get?_push_of_some _ e, turn_list a _, ⟨_, Heap.get?_push_size _ rfl, rfl, rfl⟩, fun b hb => ?_, q⟩
  have e : b = s1.heap.objs.size := by simpa using hb
  subst e
  exact I1.fpOk (Nat.le_refl _) (I1.hok.fresh (Nat.le_refl _))
theorem range_it {pins : List (Addr × Obj)} {σ : St} {H : Hp} {s : Shared} {R : It → Hp → Prop} {E : Value → Shared → Prop} {lo hi : Int} {t u v : Tok} {tk : Nat} (I : Inv X pins σ H s) (h1 : -(2 ^ 62) ≤ lo) (h2 : lo < 2 ^ 62) (h3 : -(2 ^ 62) ≤ hi) (h4 : hi < 2 ^ 62)
    (q : R (Itr lo (hi - lo).toNat) H) : wpAny (model X.prog X.w) X.A (pyIter (.ref s.heap.objs.size)) (PIE X pins σ tg R) E { s with heap := s.heap.push { cls := .type "range", data := .fields #[.int lo t, .int hi u, .int 1 v] }, toks := tk } := by
  refine wpAny_pyIter_range (IsRange.new ..) (small_one h1 h2 h3 h4) ?_
  have I1 : Inv X pins σ H { s with heap := s.heap.push { cls := .type "range", data := .fields #[.int lo t, .int hi u, .int 1 v] }, toks := tk } := I.kept fun b o e => Heap.get?_push_of_some _ e
  refine ⟨(s.heap.push { cls := .type "range", data := .fields #[.int lo t, .int hi u, .int 1 v] }).objs.size, [(s.heap.push { cls := .type "range", data := .fields #[.int lo t, .int hi u, .int 1 v] }).objs.size], _, _, H, rfl,
    I1.kept (t' := tk) fun b o e => Heap.get?_push_of_some _ e, turn_range _ lo (hi - lo).toNat, ?_, fun b hb => ?_, q⟩
  · have e1 : lo + ((0 : Nat) : Int) * 1 = lo := by simp
    have e2 : (((hi - lo).toNat : Nat) : Int) - ((0 : Nat) : Int) = Builtin.Range.rangeSize lo hi 1 := by rw [rangeSize_one]; split <;> omega
    show IsRangeIter _ _ (lo + ((0 : Nat) : Int) * 1) ((((hi - lo).toNat : Nat) : Int) - ((0 : Nat) : Int)) 1
    rw [e1, e2]
    exact Heap.get?_push_size _ rfl
  · have e : b = (s.heap.push { cls := .type "range", data := .fields #[.int lo t, .int hi u, .int 1 v] }).objs.size := by simpa using hb
    subst e
    exact I1.fpOk (Nat.le_refl _) (I1.hok.fresh (Nat.le_refl _))
def iRng1 (ta : TA) : TI := fun σ H R => ta σ H fun vs H1 => ∃ j : Int, vs = [.int j] ∧ -(2 ^ 62) ≤ j ∧ j < 2 ^ 62 ∧ R (Itr 0 j.toNat) H1
def iRng2 (ta : TA) : TI := fun σ H R => ta σ H fun vs H1 => ∃ i j : Int, vs = [.int i, .int j] ∧ (-(2 ^ 62) ≤ i ∧ i < 2 ^ 62 ∧ -(2 ^ 62) ≤ j ∧ j < 2 ^ 62) ∧ R (Itr i (j - i).toNat) H1
theorem pi_range1 {a : Expr} {ta : TA} {p pos : Pos} (hg : Gl X "range") (hm : X.mg "range" = none) (ha : PA X [a] ta) (hs : starEach [a] X.env = [(false, eval a X.env)] := by rfl) : PI X tg (.Call (.Name "range" p) [a] [] pos) (iRng1 ta) := by
  intro pins s σ H R I h
  refine Call_ (ld_blt I hg hm boot_range (PyProof.Rows.callWith_type1 (thn (ha pos pins s σ H _ I h) fun us s1 ⟨vs, H1, I1, r1, q1⟩ => ?_) hs rfl))
  obtain ⟨j, e, q1, q2, q⟩ := q1
  subst e
  cases r1 with
  | cons r rr =>
    cases rr
    obtain ⟨t, rfl⟩ := r
    exact call_range_1 (range_it I1 (by omega) (by omega) q1 q2 (by simpa using q))
theorem pi_range2 {a b : Expr} {ta : TA} {p pos : Pos} (hg : Gl X "range") (hm : X.mg "range" = none) (ha : PA X [a, b] ta) (hs : starEach [a, b] X.env = [(false, eval a X.env), (false, eval b X.env)] := by rfl) (hs2 : starEach [b] X.env = [(false, eval b X.env)] := by rfl) :
    PI X tg (.Call (.Name "range" p) [a, b] [] pos) (iRng2 ta) := by
  intro pins s σ H R I h
  refine Call_ (ld_blt I hg hm boot_range (PyProof.Rows.callWith_type1 (thn (ha pos pins s σ H _ I h) fun us s1 ⟨vs, H1, I1, r1, q1⟩ => ?_) (by rw [hs, hs2]) (by rw [hs2]; rfl)))
  obtain ⟨i, j, e, ⟨q1, q2, q3, q4⟩, q⟩ := q1
  subst e
  cases r1 with
  | cons r rr =>
    cases rr with
    | cons r' rr =>
      cases rr
      obtain ⟨t, rfl⟩ := r
      obtain ⟨t', rfl⟩ := r'
      exact call_range_2 (range_it I1 q1 q2 q3 q4 q)

/-! ### for -/
def tFor (wi : TI) (g : TG) (tb : TS) : TS := fun D σ H => wi σ H fun J H1 => ∃ W : Nat → Nat → St → Hp → Prop, (∃ m, W 0 m σ H1) ∧ ∀ i m σ H, W i m σ H →
  (J.stop i H ∧ D.nx σ H) ∨ (J.go i H ∧ ∃ N : St → Hp → Prop, (∀ σ' H', N σ' H' → ∃ m', m' < m ∧ W (i + 1) m' σ' H') ∧ ∀ x H', J.yld i H x H' → g x σ H' fun σ2 H2 => tb { D with nx := N, ct := N, bk := D.nx } σ2 H2)
def pinsAt (fp : List Addr) (h : Heap) : List (Addr × Obj) := fp.filterMap fun b => (h.get? b).map fun o => (b, o)
theorem mem_pinsAt {fp : List Addr} {h : Heap} {b : Addr} {o : Obj} (hb : b ∈ fp) (e : h.get? b = some o) : (b, o) ∈ pinsAt fp h := List.mem_filterMap.mpr ⟨b, hb, by rw [e]; rfl⟩
theorem of_pinsAt {fp : List Addr} {h : Heap} {p : Addr × Obj} (hp : p ∈ pinsAt fp h) : p.1 ∈ fp ∧ h.get? p.1 = some p.2 := by
  obtain ⟨b, hb, e⟩ := List.mem_filterMap.mp hp
  cases q : h.get? b with
  | none => rw [q] at e; cases e
  | some o =>
    rw [q] at e
    have e' : (b, o) = p := Option.some.inj e
    subst e'
    exact ⟨hb, q⟩
theorem Inv.pinned {pins : List (Addr × Obj)} {σ : St} {H : Hp} {s : Shared} {fp : List Addr} (I : Inv X pins σ H s) (hf : ∀ b ∈ fp, FpOk X pins H b) (ho : ∀ b ∈ fp, ∃ o, s.heap.get? b = some o ∧ ∀ v, o.data ≠ .cell v) : Inv X (pins ++ pinsAt fp s.heap) σ H s :=
  I.pins_of fun p hp => (List.mem_append.mp hp).elim (fun z => I.pin p (List.mem_append_right _ z)) fun z => by
    obtain ⟨hb, e⟩ := of_pinsAt z
    obtain ⟨f0, f1, f2, _⟩ := hf p.1 hb
    obtain ⟨o, e', d⟩ := ho p.1 hb
    rw [e] at e'; cases e'
    exact ⟨e, f0, f1, f2, d⟩
theorem Inv.unpinned {pins pl : List (Addr × Obj)} {σ : St} {H : Hp} {s : Shared} (I : Inv X (pins ++ pl) σ H s) : Inv X pins σ H s := I.pins_of fun p hp => I.pin p (List.mem_append_right _ (List.mem_append_left _ hp))
theorem ps_for {iter : Expr} {body : List Stmt} {wi : TI} {g : TG} {tb : TS} {pos : Pos} (hp : PassesOwn (model X.prog X.w) X.A X.env X.xe) (hc : X.calm = true) (hi : PI X tg iter wi) (hg : PG X tg g) (hb : PSs X body tb)
    (hs : ∀ x, foldedSetIterable iter X.env x = pure x := by intro _; rfl) : PS X (.For tg iter body [] pos) (tFor wi g tb) := by
  intro pins s σ H D I h
  refine wpAny_For (thn (hi pins s σ H _ I h) fun v s1 h1 => thn h1 fun itv s2 h2 => ?_) hs
  obtain ⟨it, fp, tn, J, H2, e, I2, T, st2, f2, W, ⟨m0, w0⟩, turn⟩ := h2
  subst e
  -- what stays true of the iterator's objects through the loop
  have stat : ∀ {H' : Hp}, (∀ b ∈ fp, H' b = none) → ∀ b ∈ fp, FpOk X pins H' b := fun hn b hb => ⟨hn b hb, (f2 b hb).2⟩
  refine codeAny_forLoop_any (fun n s' => ∃ i σ' H', Inv X pins σ' H' s' ∧ tn i s'.heap ∧ (∀ b ∈ fp, H' b = none) ∧ W i n σ' H') ?_ m0 ⟨0, σ, H2, I2, st2, fun b hb => (f2 b hb).1, w0⟩
  rintro n s3 ⟨i, σ3, H3, I3, st3, fr3, w3⟩
  rcases turn i n σ3 H3 w3 with ⟨stop, qn⟩ | ⟨go, N, hN, step⟩
  · refine wpAny_passesOwn hp (thn (T.done X rfl rfl rfl hc i pins s3 σ3 H3 X.xe I3 (stat fr3) st3 stop) fun r s4 ⟨hr, I4⟩ => ?_)
    subst hr
    exact wpAny_execs_nil ⟨σ3, H3, I4, qn⟩
  · refine wpAny_passesOwn hp (thn (T.item X rfl rfl rfl hc i pins s3 σ3 H3 X.xe I3 (stat fr3) st3 go) fun r s4 ⟨u, hr, h4⟩ => ?_)
    subst hr
    refine wpAny_passesOwn hp (thn h4 fun _ s5 ⟨x, H5, I5, r5, y5, st5, fr5⟩ => ?_)
    have I5' := I5.pinned (stat fr5) (T.obj _ _ st5)
    refine wpAny_passesOwn hp (thn (hg _ s5 σ3 H5 x u _ I5' r5 (step x H5 y5)) fun _ s6 ⟨σ6, H6, I6, q6⟩ => ?_)
    refine wpAny_passesOwn hp (thn (hb _ s6 σ6 H6 _ I6 q6) fun f s7 q7 => ?_)
    have again : ∀ {σ7 : St} {H7 : Hp}, Inv X (pins ++ pinsAt fp s5.heap) σ7 H7 s7 → N σ7 H7 → ∃ m, m < n ∧ ∃ i σ' H', Inv X pins σ' H' s7 ∧ tn i s7.heap ∧ (∀ b ∈ fp, H' b = none) ∧ W i m σ' H' := fun {σ7 H7} I7 n7 => by
      obtain ⟨m', hm, w7⟩ := hN σ7 H7 n7
      refine ⟨m', hm, i + 1, σ7, H7, I7.unpinned, T.keep _ _ _ st5 fun b hb o e => (I7.pin (b, o) (List.mem_append_right _ (List.mem_append_right _ (mem_pinsAt hb e)))).1, fun b hb => ?_, w7⟩
      obtain ⟨o, e, d⟩ := T.obj _ _ st5 b hb
      exact (I7.pin (b, o) (List.mem_append_right _ (List.mem_append_right _ (mem_pinsAt hb e)))).2.1
    cases f with
    | next => obtain ⟨σ7, H7, I7, n7⟩ := q7; exact again I7 n7
    | cont => obtain ⟨σ7, H7, I7, n7⟩ := q7; exact again I7 n7
    | brk => obtain ⟨σ7, H7, I7, q7⟩ := q7; exact ⟨σ7, H7, I7.unpinned, q7⟩
    | ret v => obtain ⟨x7, σ7, H7, I7, r7, q7⟩ := q7; exact ⟨x7, σ7, H7, I7.unpinned, r7, q7⟩
end

/-! ### the forms one uses -/
theorem for_list {K : PySem.W.Frag} {a : Addr} {xs : List V} {g : TG} {tb : TS} {D : Ends} {σ : St} {H : Hp} (Pv : Nat → St → Hp → Prop) (h0 : Pv 0 σ H) (hl : ∀ i σ H, i ≤ xs.length → Pv i σ H → SqL K H a xs)
    (hs : ∀ i x σ H, xs[i]? = some x → Pv i σ H → g x σ H fun σ2 H2 => tb { D with nx := Pv (i + 1), ct := Pv (i + 1), bk := D.nx } σ2 H2) (hd : ∀ σ H, Pv xs.length σ H → D.nx σ H) :
    ∃ W : Nat → Nat → St → Hp → Prop, (∃ m, W 0 m σ H) ∧ ∀ i m σ H, W i m σ H →
      ((Itl K a).stop i H ∧ D.nx σ H) ∨ ((Itl K a).go i H ∧ ∃ N : St → Hp → Prop, (∀ σ' H', N σ' H' → ∃ m', m' < m ∧ W (i + 1) m' σ' H') ∧ ∀ x H', (Itl K a).yld i H x H' → g x σ H' fun σ2 H2 => tb { D with nx := N, ct := N, bk := D.nx } σ2 H2) := by
  refine ⟨fun i m σ H => m = xs.length - i ∧ i ≤ xs.length ∧ Pv i σ H, ⟨xs.length, by simp, Nat.zero_le _, h0⟩, ?_⟩
  rintro i m σ H ⟨rfl, hi, p⟩
  have q := hl i σ H hi p
  by_cases hlt : i < xs.length
  · refine .inr ⟨⟨xs, xs[i], q, by simp [hlt]⟩, Pv (i + 1), fun σ' H' p' => ⟨xs.length - (i + 1), by omega, rfl, hlt, p'⟩, fun x H' y => ?_⟩
    obtain ⟨e, y⟩ := y
    subst e
    exact hs i x σ _ (y xs q) p
  · have e : i = xs.length := by omega
    subst e
    exact .inl ⟨⟨xs, q, Nat.le_refl _⟩, hd σ H p⟩
theorem for_range {lo : Int} {n : Nat} {g : TG} {tb : TS} {D : Ends} {σ : St} {H : Hp} (Pv : Nat → St → Hp → Prop) (h0 : Pv 0 σ H)
    (hs : ∀ i σ H, i < n → Pv i σ H → g (.int (lo + i)) σ H fun σ2 H2 => tb { D with nx := Pv (i + 1), ct := Pv (i + 1), bk := D.nx } σ2 H2) (hd : ∀ σ H, Pv n σ H → D.nx σ H) :
    ∃ W : Nat → Nat → St → Hp → Prop, (∃ m, W 0 m σ H) ∧ ∀ i m σ H, W i m σ H →
      ((Itr lo n).stop i H ∧ D.nx σ H) ∨ ((Itr lo n).go i H ∧ ∃ N : St → Hp → Prop, (∀ σ' H', N σ' H' → ∃ m', m' < m ∧ W (i + 1) m' σ' H') ∧ ∀ x H', (Itr lo n).yld i H x H' → g x σ H' fun σ2 H2 => tb { D with nx := N, ct := N, bk := D.nx } σ2 H2) := by
  refine ⟨fun i m σ H => m = n - i ∧ i ≤ n ∧ Pv i σ H, ⟨n, by simp, Nat.zero_le _, h0⟩, ?_⟩
  rintro i m σ H ⟨rfl, hi, p⟩
  by_cases hlt : i < n
  · refine .inr ⟨hlt, Pv (i + 1), fun σ' H' p' => ⟨n - (i + 1), by omega, rfl, hlt, p'⟩, fun x H' y => ?_⟩
    obtain ⟨e, y⟩ := y
    subst e y
    exact hs i σ _ hlt p
  · have e : i = n := by omega
    subst e
    exact .inl ⟨Nat.le_refl _, hd σ H p⟩
end L2

namespace L2
open PySem PySem.Spec PyProof.Rows

abbrev R2 := V → V → Hp → VK → Prop
def OpR (X : Cx) (f : Value → Value → Sem Value) (r : R2) : Prop :=
  ∀ (pins : List (Addr × Obj)) (s : Shared) (σ : St) (H : Hp) (x y : V) (v u : Value) (Q : VK), Inv X pins σ H s → RelV x v → RelV y u → r x y H Q →
    wpAny (model X.prog X.w) X.A (f v u) (EP X pins σ Q) X.xe s
def UnR (X : Cx) (f : Value → Sem Value) (r : V → Hp → VK → Prop) : Prop :=
  ∀ (pins : List (Addr × Obj)) (s : Shared) (σ : St) (H : Hp) (x : V) (v : Value) (Q : VK), Inv X pins σ H s → RelV x v → r x H Q →
    wpAny (model X.prog X.w) X.A (f v) (EP X pins σ Q) X.xe s
def CallR (X : Cx) (f : Value) (r : List V → Hp → VK → Prop) : Prop :=
  ∀ (pins : List (Addr × Obj)) (s : Shared) (σ : St) (H : Hp) (xs : List V) (us : List Value) (Q : VK), Inv X pins σ H s → Vals xs us → r xs H Q →
    wpAny (model X.prog X.w) X.A (call f us) (EP X pins σ Q) X.xe s
def tOp (r : R2) (ta tb : TE) : TE := fun σ H Q => ta σ H fun x H1 => tb σ H1 fun y H2 => r x y H2 Q
def tUn (r : V → Hp → VK → Prop) (ta : TE) : TE := fun σ H Q => ta σ H fun x H1 => r x H1 Q
def rI (C : Int → Int → Prop) (g : Int → Int → V) : R2 := fun x y H Q => ∃ i j, x = .int i ∧ y = .int j ∧ C i j ∧ Q (g i j) H
def rI0 (g : Int → Int → V) : R2 := fun x y H Q => ∃ i j, x = .int i ∧ y = .int j ∧ Q (g i j) H
def rU (g : Int → V) : V → Hp → VK → Prop := fun x H Q => ∃ i, x = .int i ∧ Q (g i) H

section
variable {X : Cx} {a b c : Expr} {ta tb tc : TE} {pos : Pos}

theorem binT (ha : PE X a ta) (hb : PE X b tb) {pins : List (Addr × Obj)} {s : Shared} {σ : St} {H : Hp} {R : V → V → Hp → Prop} (I : Inv X pins σ H s)
    (h : ta σ H fun x H1 => tb σ H1 fun y H2 => R x y H2) {Q : Value → Shared → Prop} {f : Value → Value → Sem Value}
    (hf : ∀ v u s2 x y H2, Inv X pins σ H2 s2 → RelV x v → RelV y u → R x y H2 → wpAny (model X.prog X.w) X.A (f v u) Q X.xe s2) :
    wpAny (model X.prog X.w) X.A (eval a X.env) (fun v s₁ => wpAny (model X.prog X.w) X.A (eval b X.env) (fun u s₂ => wpAny (model X.prog X.w) X.A (f v u) Q X.xe s₂) X.xe s₁) X.xe s := by
  refine thn (ha pins s σ H _ I h) fun v s1 ⟨x, H1, I1, r1, q1⟩ => ?_
  refine thn (hb pins s1 σ H1 _ I1 q1) fun u s2 ⟨y, H2, I2, r2, q2⟩ => ?_
  exact hf v u s2 x y H2 I2 r1 r2 q2

theorem pe_op {op : Operator} {r : R2} (ho : OpR X (binaryOp op) r) (ha : PE X a ta) (hb : PE X b tb) : PE X (.BinOp a op b pos) (tOp r ta tb) := by
  intro pins s σ H Q I h
  exact wpAny_BinOp (binT ha hb I h fun v u s2 x y H2 I2 rx ry q => ho pins s2 σ H2 x y v u Q I2 rx ry q)
theorem pe_un {op : UnaryOp} {r : V → Hp → VK → Prop} (ho : UnR X (unaryOp op) r) (ha : PE X a ta) : PE X (.UnaryOp op a pos) (tUn r ta) := by
  intro pins s σ H Q I h
  exact UnaryOp_ (thn (ha pins s σ H _ I h) fun v s1 ⟨x, H1, I1, r1, q1⟩ => ho pins s1 σ H1 x v Q I1 r1 q1)
/-! ### ints -/
theorem opI {f : Value → Value → Sem Value} {C : Int → Int → Prop} {g : Int → Int → Int}
    (rule : ∀ (i j : Int) (t u : Tok) (s : Shared) (Q : Value → Shared → Prop) (E : Value → Shared → Prop), C i j → Q (.int (g i j) s.toks) { s with toks := s.toks + 1 } → wpAny (model X.prog X.w) X.A (f (.int i t) (.int j u)) Q E s) :
    OpR X f (rI C fun i j => .int (g i j)) := by
  intro pins s σ H x y v u Q I rx ry h
  obtain ⟨i, j, rfl, rfl, hc, q⟩ := h
  obtain ⟨t, rfl⟩ := rx
  obtain ⟨t', rfl⟩ := ry
  exact rule i j t t' s _ _ hc ⟨.int (g i j), H, I.tok _, ⟨_, rfl⟩, q⟩
theorem opI0 {f : Value → Value → Sem Value} {g : Int → Int → Int}
    (rule : ∀ (i j : Int) (t u : Tok) (s : Shared) (Q : Value → Shared → Prop) (E : Value → Shared → Prop), Q (.int (g i j) s.toks) { s with toks := s.toks + 1 } → wpAny (model X.prog X.w) X.A (f (.int i t) (.int j u)) Q E s) :
    OpR X f (rI0 fun i j => .int (g i j)) := by
  intro pins s σ H x y v u Q I rx ry h
  obtain ⟨i, j, rfl, rfl, q⟩ := h
  obtain ⟨t, rfl⟩ := rx
  obtain ⟨t', rfl⟩ := ry
  exact rule i j t t' s _ _ ⟨.int (g i j), H, I.tok _, ⟨_, rfl⟩, q⟩
theorem opB0 {f : Value → Value → Sem Value} {g : Int → Int → Bool}
    (rule : ∀ (i j : Int) (t u : Tok) (s : Shared) (Q : Value → Shared → Prop) (E : Value → Shared → Prop), Q (.bool (g i j)) s → wpAny (model X.prog X.w) X.A (f (.int i t) (.int j u)) Q E s) :
    OpR X f (rI0 fun i j => .bl (g i j)) := by
  intro pins s σ H x y v u Q I rx ry h
  obtain ⟨i, j, rfl, rfl, q⟩ := h
  obtain ⟨t, rfl⟩ := rx
  obtain ⟨t', rfl⟩ := ry
  exact rule i j t t' s _ _ ⟨.bl (g i j), H, I, rfl, q⟩

def CDiv (i j : Int) : Prop := 0 < j ∧ j < 1073741824
def CPow (i j : Int) : Prop := 0 ≤ j ∧ j ≤ 1000000 ∧ i.natAbs < 2 ^ 64
def CMul (i j : Int) : Prop := (-(2 ^ 64) < i ∧ i < 2 ^ 64) ∨ (-(2 ^ 64) < j ∧ j < 2 ^ 64)
theorem CMul.ok {i j : Int} (h : CMul i j) : IntMulOk i j := by
  rcases h with ⟨h1, h2⟩ | ⟨h1, h2⟩
  · exact .of_left (intBits_le_64 h1 h2)
  · exact .of_right (intBits_le_64 h1 h2)
theorem op_add : OpR X (binaryOp .Add) (rI0 fun i j => .int (i + j)) := opI0 fun _ _ _ _ _ _ _ q => add_int q
theorem op_sub : OpR X (binaryOp .Sub) (rI0 fun i j => .int (i - j)) := opI0 fun _ _ _ _ _ _ _ q => sub_int q
theorem op_mul : OpR X (binaryOp .Mult) (rI CMul fun i j => .int (i * j)) := opI fun _ _ _ _ _ _ _ hc q => mul_int q hc.ok
theorem op_fdiv : OpR X (binaryOp .FloorDiv) (rI CDiv fun i j => .int (i / j)) := opI fun i j _ _ _ _ _ hc q => by
  have h1 : (0 : Int) < j := hc.1
  have h2 : j < 1073741824 := hc.2
  exact floordiv_int (by omega) (by rw [Int.fdiv_eq_ediv_of_nonneg i (by omega)]; exact q) (.inl (PyProof.noPylong_small (by omega)))
theorem op_mod : OpR X (binaryOp .Mod) (rI (fun _ j => 0 < j) fun i j => .int (i % j)) := opI fun i j _ _ _ _ _ hc q => by
  have h1 : (0 : Int) < j := hc
  exact mod_int' (by omega) (by rw [Int.fmod_eq_emod_of_nonneg i (by omega)]; exact q)
theorem op_pow : OpR X (binaryOp .Pow) (rI CPow fun i j => .int (i ^ j.toNat)) := opI fun _ _ _ _ _ _ _ hc q => pow_int_small hc.1 hc.2.1 hc.2.2 q
theorem unI {f : Value → Sem Value} {g : Int → Int}
    (rule : ∀ (i : Int) (t : Tok) (s : Shared) (Q : Value → Shared → Prop) (E : Value → Shared → Prop), Q (.int (g i) s.toks) { s with toks := s.toks + 1 } → wpAny (model X.prog X.w) X.A (f (.int i t)) Q E s) :
    UnR X f (rU fun i => .int (g i)) := by
  intro pins s σ H x v Q I rx h
  obtain ⟨i, rfl, q⟩ := h
  obtain ⟨t, rfl⟩ := rx
  exact rule i t s _ _ ⟨.int (g i), H, I.tok _, ⟨_, rfl⟩, q⟩
theorem un_neg : UnR X (unaryOp .USub) (rU fun i => .int (-i)) := unI fun _ _ _ _ _ q => neg_int q
/-! ### bools among ints: n += (a < b) -/
end

/-! ### comparisons -/
def scal : V → V → Bool
  | .non, .non => true | .non, .int _ => true | .int _, .non => true | .non, .bl _ => true | .bl _, .non => true | .non, .str _ => true | .str _, .non => true
  | .int _, .int _ => true | .bl _, .bl _ => true | .str _, .str _ => true | .byt _, .byt _ => true
  | .int _, .str _ => true | .str _, .int _ => true | .bl _, .str _ => true | .str _, .bl _ => true
  | _, _ => false
def rEq : R2 := fun x y H Q => scal x y = true ∧ Q (.bl (decide (x = y))) H
def rNe : R2 := fun x y H Q => scal x y = true ∧ Q (.bl (!decide (x = y))) H

theorem dec_int {i j : Int} : decide (V.int i = V.int j) = (i == j) := by
  rw [Bool.eq_iff_iff]
  simp
theorem dec_bl {i j : Bool} : decide (V.bl i = V.bl j) = (i == j) := by
  rw [Bool.eq_iff_iff]
  simp
theorem dec_str {i j : Str} : decide (V.str i = V.str j) = (i == j) := by
  rw [Bool.eq_iff_iff]
  simp
theorem dec_byt {i j : Array UInt8} : decide (V.byt i = V.byt j) = (i.toList == j.toList) := by
  rw [Bool.eq_iff_iff]
  cases i
  cases j
  simp

section
variable {X : Cx} {a b c : Expr} {ta tb tc : TE} {pos : Pos}
theorem fin_bl {pins : List (Addr × Obj)} {σ : St} {H : Hp} {s : Shared} {Q : VK} {k k' : Bool} (I : Inv X pins σ H s) (q : Q (.bl k) H) (e : k = k') : EP X pins σ Q (.bool k') s := by
  subst e
  exact ⟨.bl k, H, I, rfl, q⟩
theorem op_eq : OpR X (compareOp .Eq) rEq := by
  intro pins s σ H x y v u Q I rx ry h
  obtain ⟨hs, q⟩ := h
  cases x with
  | non =>
    cases rx
    cases y with
    | non => cases ry; exact PySem.EqNone.eq_none_none (fin_bl I q (by simp))
    | bl j => cases ry; exact PySem.EqNone.eq_none_bool (fin_bl I q (by simp))
    | int j => obtain ⟨t', rfl⟩ := ry; exact PySem.EqNone.eq_none_int (fin_bl I q (by simp))
    | str j => obtain ⟨t', rfl⟩ := ry; exact PySem.EqNone.eq_none_str (fin_bl I q (by simp))
    | _ => exact absurd (show false = true from hs) Bool.false_ne_true
  | bl i =>
    cases rx
    cases y with
    | non => cases ry; exact PySem.EqNone.eq_bool_none (fin_bl I q (by simp))
    | bl j => cases ry; exact eq_bool (fin_bl I q dec_bl)
    | str j => obtain ⟨t', rfl⟩ := ry; exact PySem.EqMixed.eq_bool_str (fin_bl I q (by simp))
    | _ => exact absurd (show false = true from hs) Bool.false_ne_true
  | int i =>
    obtain ⟨t, rfl⟩ := rx
    cases y with
    | non => cases ry; exact PySem.EqNone.eq_int_none (fin_bl I q (by simp))
    | int j => obtain ⟨t', rfl⟩ := ry; exact eq_int (fin_bl I q dec_int)
    | str j => obtain ⟨t', rfl⟩ := ry; exact PySem.EqMixed.eq_int_str (fin_bl I q (by simp))
    | _ => exact absurd (show false = true from hs) Bool.false_ne_true
  | str i =>
    obtain ⟨t, rfl⟩ := rx
    cases y with
    | non => cases ry; exact PySem.EqNone.eq_str_none (fin_bl I q (by simp))
    | bl j => cases ry; exact PySem.EqMixed.eq_str_bool (fin_bl I q (by simp))
    | int j => obtain ⟨t', rfl⟩ := ry; exact PySem.EqMixed.eq_str_int (fin_bl I q (by simp))
    | str j => obtain ⟨t', rfl⟩ := ry; exact eq_str (fin_bl I q dec_str)
    | _ => exact absurd (show false = true from hs) Bool.false_ne_true
  | byt i =>
    obtain ⟨t, rfl⟩ := rx
    cases y with
    | byt j => obtain ⟨t', rfl⟩ := ry; exact PySem.W.eq_bytes (fin_bl I q dec_byt)
    | _ => exact absurd (show false = true from hs) Bool.false_ne_true
  | _ => cases y <;> exact absurd (show false = true from hs) Bool.false_ne_true
theorem op_ne : OpR X (compareOp .NotEq) rNe := by
  intro pins s σ H x y v u Q I rx ry h
  obtain ⟨hs, q⟩ := h
  cases x with
  | non =>
    cases rx
    cases y with
    | non => cases ry; exact PySem.EqNone.ne_none_none (fin_bl I q (by simp))
    | bl j => cases ry; exact PySem.EqNone.ne_none_bool (fin_bl I q (by simp))
    | int j => obtain ⟨t', rfl⟩ := ry; exact PySem.EqNone.ne_none_int (fin_bl I q (by simp))
    | str j => obtain ⟨t', rfl⟩ := ry; exact PySem.EqNone.ne_none_str (fin_bl I q (by simp))
    | _ => exact absurd (show false = true from hs) Bool.false_ne_true
  | bl i =>
    cases rx
    cases y with
    | non => cases ry; exact PySem.EqNone.ne_bool_none (fin_bl I q (by simp))
    | bl j => cases ry; exact ne_bool (fin_bl I q (congrArg not dec_bl))
    | str j => obtain ⟨t', rfl⟩ := ry; exact PySem.EqMixed.ne_bool_str (fin_bl I q (by simp))
    | _ => exact absurd (show false = true from hs) Bool.false_ne_true
  | int i =>
    obtain ⟨t, rfl⟩ := rx
    cases y with
    | non => cases ry; exact PySem.EqNone.ne_int_none (fin_bl I q (by simp))
    | int j => obtain ⟨t', rfl⟩ := ry; exact ne_int (fin_bl I q (congrArg not dec_int))
    | str j => obtain ⟨t', rfl⟩ := ry; exact PySem.EqMixed.ne_int_str (fin_bl I q (by simp))
    | _ => exact absurd (show false = true from hs) Bool.false_ne_true
  | str i =>
    obtain ⟨t, rfl⟩ := rx
    cases y with
    | non => cases ry; exact PySem.EqNone.ne_str_none (fin_bl I q (by simp))
    | bl j => cases ry; exact PySem.EqMixed.ne_str_bool (fin_bl I q (by simp))
    | int j => obtain ⟨t', rfl⟩ := ry; exact PySem.EqMixed.ne_str_int (fin_bl I q (by simp))
    | str j => obtain ⟨t', rfl⟩ := ry; exact ne_str (fin_bl I q (congrArg not dec_str))
    | _ => exact absurd (show false = true from hs) Bool.false_ne_true
  | byt i =>
    obtain ⟨t, rfl⟩ := rx
    cases y with
    | byt j => obtain ⟨t', rfl⟩ := ry; exact PySem.W.ne_bytes (fin_bl I q (congrArg not dec_byt))
    | _ => exact absurd (show false = true from hs) Bool.false_ne_true
  | _ => cases y <;> exact absurd (show false = true from hs) Bool.false_ne_true

theorem op_lt : OpR X (compareOp .Lt) (rI0 fun i j => .bl (decide (i < j))) := opB0 fun _ _ _ _ _ _ _ q => lt_int q
theorem op_le : OpR X (compareOp .LtE) (rI0 fun i j => .bl (decide (i ≤ j))) := opB0 fun _ _ _ _ _ _ _ q => le_int q
theorem op_gt : OpR X (compareOp .Gt) (rI0 fun i j => .bl (decide (j < i))) := opB0 fun _ _ _ _ _ _ _ q => gt_int q
theorem op_ge : OpR X (compareOp .GtE) (rI0 fun i j => .bl (decide (j ≤ i))) := opB0 fun _ _ _ _ _ _ _ q => ge_int q
theorem op_in_str : OpR X (compareOp .In) (fun x y H Q => ∃ i j, x = .str i ∧ y = .str j ∧ Q (.bl (!(Builtin.Str.occurrences j i 0 j.length 1).isEmpty)) H) := by
  intro pins s σ H x y v u Q I rx ry h
  obtain ⟨i, j, rfl, rfl, q⟩ := h
  obtain ⟨t, rfl⟩ := rx
  obtain ⟨t', rfl⟩ := ry
  exact in_str (fin_bl I q rfl)

theorem nomark (b : Expr) {op : CmpOp} (h : op ≠ .In := by decide) (h2 : op ≠ .NotIn := by decide) : behindInMarks op b = false := by
  have e1 : (op == CmpOp.In) = false := by cases op <;> first | rfl | exact absurd rfl h
  have e2 : (op == CmpOp.NotIn) = false := by cases op <;> first | rfl | exact absurd rfl h2
  cases b <;> simp [behindInMarks, e1, e2]
theorem pe_cmpR {op : CmpOp} {r : R2} (ho : OpR X (compareOp op) r) (ha : PE X a ta) (hb : PE X b tb) (hm : behindInMarks op b = false) : PE X (.Compare a [op] [b] pos) (tOp r ta tb) := by
  intro pins s σ H Q I h
  exact wpAny_Compare1 (binT ha hb I h fun v u s2 x y H2 I2 rx ry q => ho pins s2 σ H2 x y v u Q I2 rx ry q) hm
def tTest (t : TE) : TT := fun σ H Q => t σ H fun x H' => ∃ k, x = .bl k ∧ Q k H'
theorem pt_cmpR {op : CmpOp} {r : R2} (ho : OpR X (compareOp op) r) (ha : PE X a ta) (hb : PE X b tb) (hm : behindInMarks op b = false) : PT X (.Compare a [op] [b] pos) (tTest (tOp r ta tb)) := by
  intro pins s σ H Q I h
  refine wpAny_isTrue_Compare1 (thn (ha pins s σ H _ I h) fun v s1 ⟨x, H1, I1, r1, q1⟩ => thn (hb pins s1 σ H1 _ I1 q1) fun u s2 ⟨y, H2, I2, r2, q2⟩ =>
    thn (ho pins s2 σ H2 x y v u _ I2 r1 r2 q2) fun c s3 ⟨z, H3, I3, r3, k, e, q3⟩ => ?_) hm
  subst e
  cases r3
  exact wpAny_truthy_bool ⟨H3, I3, q3⟩
def tChain (r r' : R2) (ta tb tc : TE) : TE := fun σ H Q => ta σ H fun x H1 => tb σ H1 fun y H2 => r x y H2 fun z H3 => ∃ k, z = .bl k ∧
  (if k = true then tc σ H3 fun w' H4 => r' y w' H4 Q else Q (.bl false) H3)
theorem pe_chain {op op' : CmpOp} {r r' : R2} (ho : OpR X (compareOp op) r) (ho' : OpR X (compareOp op') r') (ha : PE X a ta) (hb : PE X b tb) (hc : PE X c tc)
    (hm : lastMarks [op, op'] [b, c] = false := by with_unfolding_all rfl) : PE X (.Compare a [op, op'] [b, c] pos) (tChain r r' ta tb tc) := by
  intro pins s σ H Q I h
  refine Compare_chain (thn (ha pins s σ H _ I h) fun v s1 ⟨x, H1, I1, r1, q1⟩ => chain_link (thn (hb pins s1 σ H1 _ I1 q1) fun u s2 ⟨y, H2, I2, r2, q2⟩ =>
    thn (ho pins s2 σ H2 x y v u _ I2 r1 r2 q2) fun d s3 ⟨z, H3, I3, r3, k, e, q3⟩ => ?_)) hm
  subst e
  cases r3
  refine wpAny_truthy_bool ?_
  cases k with
  | false => exact ite_ff ⟨.bl false, H3, I3, rfl, q3⟩
  | true => exact ite_tt (chain_last (thn (hc pins s3 σ H3 _ I3 q3) fun w' s4 ⟨z', H4, I4, r4, q4⟩ => ho' pins s4 σ H4 y z' u w' Q I4 r2 r4 q4))
/-! ### truth -/
theorem line63 : (sizeLine : Nat) < 2 ^ 63 := by rw [sizeLine_eq]; decide
/-! ### strs and bytes -/
theorem op_add_str : OpR X (binaryOp .Add) (fun x y H Q => ∃ i j, x = .str i ∧ y = .str j ∧ i.length + j.length ≤ sizeLine ∧ Q (.str (i ++ j)) H) := by
  intro pins s σ H x y v u Q I rx ry h
  obtain ⟨i, j, rfl, rfl, hz, q⟩ := h
  obtain ⟨t, rfl⟩ := rx
  obtain ⟨t', rfl⟩ := ry
  exact add_str (fun t' tk => ⟨.str (i ++ j), H, I.tok _, ⟨_, rfl⟩, q⟩) hz
/-! ### scalar builtins, by CallR -/
theorem vals1 {x : V} {us : List Value} (r : Vals [x] us) : ∃ u, us = [u] ∧ RelV x u := by
  cases r with
  | cons r1 r2 => cases r2; exact ⟨_, rfl, r1⟩
theorem vals2 {x y : V} {us : List Value} (r : Vals [x, y] us) : ∃ u w', us = [u, w'] ∧ RelV x u ∧ RelV y w' := by
  cases r with
  | cons r1 r2 =>
    cases r2 with
    | cons r3 r4 => cases r4; exact ⟨_, _, rfl, r1, r3⟩
theorem call_max2 (hc : X.calm = true) : CallR X (.builtin "max") (fun xs H Q => ∃ i j, xs = [.int i, .int j] ∧ Q (.int (if j > i then j else i)) H) := by
  intro pins s σ H xs us Q I r h
  obtain ⟨i, j, rfl, q⟩ := h
  obtain ⟨u, w', rfl, ⟨t, rfl⟩, ⟨t', rfl⟩⟩ := vals2 r
  refine max_two_ints (I.ok.hd hc) fun h' tk k => ⟨_, H, I.kept k, ?_, q⟩
  by_cases hj : j > i
  · rw [if_pos hj, if_pos hj]; exact ⟨_, rfl⟩
  · rw [if_neg hj, if_neg hj]; exact ⟨_, rfl⟩
theorem call_min2 (hc : X.calm = true) : CallR X (.builtin "min") (fun xs H Q => ∃ i j, xs = [.int i, .int j] ∧ Q (.int (if j < i then j else i)) H) := by
  intro pins s σ H xs us Q I r h
  obtain ⟨i, j, rfl, q⟩ := h
  obtain ⟨u, w', rfl, ⟨t, rfl⟩, ⟨t', rfl⟩⟩ := vals2 r
  refine min_two_ints (I.ok.hd hc) fun h' tk k => ⟨_, H, I.kept k, ?_, q⟩
  by_cases hj : j < i
  · rw [if_pos hj, if_pos hj]; exact ⟨_, rfl⟩
  · rw [if_neg hj, if_neg hj]; exact ⟨_, rfl⟩
theorem call_int1 : CallR X (.type "int") (fun xs H Q => (∃ i, xs = [.int i] ∧ Q (.int i) H) ∨ ∃ k, xs = [.bl k] ∧ Q (.int (if k then 1 else 0)) H) := by
  intro pins s σ H xs us Q I r h
  rcases h with ⟨i, rfl, q⟩ | ⟨k, rfl, q⟩
  · obtain ⟨u, rfl, t, rfl⟩ := vals1 r
    exact call_int_int ⟨.int i, H, I, ⟨_, rfl⟩, q⟩
  · obtain ⟨u, rfl, r1⟩ := vals1 r
    cases r1
    exact call_int_bool ⟨.int (if k then 1 else 0), H, I.tok _, ⟨_, rfl⟩, q⟩
end
end L2

namespace L2
open PySem PySem.Spec PyProof.Rows

/-! ### an instance, its attributes a map -/
structure ObjM (h : Heap) (x dx C : Addr) (mA : Str → Option Value) : Prop where
  obj : h.get? x = some (PySem.W.instObj C dx)
  ns : h.Ns1 dx mA
  ne : dx ≠ x

theorem lookIn_ns {h : Heap} {dx : Addr} {mA : Str → Option Value} (n : h.Ns1 dx mA) : ∃ od, h.get? dx = some od ∧ ∀ name, PySem.W.lookIn name od = some (mA name) := by
  obtain ⟨o, es, ep, ho, hd, hk, _, hm⟩ := n
  refine ⟨o, ho, fun name => ?_⟩
  have e := hm name
  unfold nsFind findBy at e
  rw [← Array.find?_toList] at e
  unfold PySem.W.lookIn
  rw [hd]
  dsimp only
  split
  · rename_i y q
    rw [q] at e
    exact congrArg some e
  · rename_i q
    rw [q] at e
    have a : es.toList.any (·.refKey) = false := by
      rw [List.any_eq_false]
      intro y hy
      obtain ⟨z, t, hkey⟩ := hk y (Array.mem_toList_iff.mp hy)
      simp [DictEntry.refKey, hkey]
    have a' : ¬ es.toList.any (·.refKey) = true := by rw [a]; exact Bool.false_ne_true
    rw [if_neg a']
    exact congrArg some e

theorem ObjM.look {h : Heap} {x dx C : Addr} {mA : Str → Option Value} (I : ObjM h x dx C mA) : ∃ od, PySem.W.InstAt h x (PySem.W.instObj C dx) C (some od) ∧ ∀ name, PySem.W.lookIn name od = some (mA name) :=
  let ⟨od, ho, hl⟩ := lookIn_ns I.ns
  ⟨od, ⟨I.obj, rfl, rfl, ho⟩, hl⟩

section
variable {prog : Program} {w : World} {A : Around} {E : Value → Shared → Prop} {s : Shared} {K : PySem.W.Frag} {x dx C f : Addr} {mA : Str → Option Value} {name : Str} {v : Value}

end

/-! ### the attributes as a list of pairs -/
def putF (f : Str) (v : V) : List (Str × V) → List (Str × V)
  | [] => [(f, v)]
  | (g, x) :: r => if g = f then (g, v) :: r else (g, x) :: putF f v r
section
variable {P : Program} {w : World} {H H' : Hp} {h h' : Heap} {a C dx : Addr} {fs fs' : List (Str × V)}
theorem ins_get (hok : HOk P w H h) (e : H a = some (.ins C dx fs)) : ∃ mA, ObjM h a dx C mA ∧ (∀ f, RelO (fs.lookup f) (mA f)) ∧ PySem.Within mA (fs.map (·.1)) ∧ fs.length ≤ 1000 ∧ H dx = some (.own a) := by
  obtain ⟨d, z, ne, ob, mA, n, r, q⟩ := (show ObjOk P w H h a (.ins C dx fs) from hok a _ e)
  exact ⟨mA, ⟨ob, n, ne⟩, r, q, z, d⟩
end

/-! ### what of the text a class must have -/
structure Cls (K : PySem.W.Frag) (C : Addr) : Prop where
  pg : PySem.W.plainGet K C Str.empty = true
  hd : PySem.W.hasDictIn K C = true
  po : PySem.W.plainOver K C = true
  sa : PySem.W.findIn K (.ref C) "__setattr__" = some (some (.builtin "object.__setattr__"))
theorem Cls.get {K : PySem.W.Frag} {C : Addr} (c : Cls K C) (f : Str) : PySem.W.plainGet K C f = true := c.pg
section
variable {X : Cx} {pins : List (Addr × Obj)} {σ : St} {H : Hp} {s : Shared} {a C dx : Addr} {fs : List (Str × V)} {f : Str} {v : V} {A : Around} {E : Value → Shared → Prop}

end

/-! ### readings and rules -/
section
variable {X : Cx} {o e value : Expr} {f : Str} {pos pos' tpos : Pos} {ta tv : TE}
end

/-! ### isinstance -/
section
variable {X : Cx} {pins : List (Addr × Obj)} {σ : St} {H : Hp} {s : Shared} {A : Around} {E : Value → Shared → Prop} {Q : Value → Shared → Prop} {c : Value} {b : Bool}
inductive TyOf (K : PySem.W.Frag) (H : Hp) : V → Value → Prop where
  | non : TyOf K H .non (.type "NoneType")
  | bl (x : Bool) : TyOf K H (.bl x) (.type "bool")
  | int (i : Int) : TyOf K H (.int i) (.type "int")
  | str (x : Str) : TyOf K H (.str x) (.type "str")
  | flt (x : UInt64) : TyOf K H (.flt x) (.type "float")
  | lst {a : Addr} {xs : List V} (e : H a = some (.lst xs)) : TyOf K H (.ref a) (.type "list")
  | frz {a : Addr} {o : Obj} {xs : List V} (e : H a = some (.frz o (.lst xs))) : TyOf K H (.ref a) (.type "list")
  | tup {a : Addr} {xs : List V} (e : H a = some (.tup xs)) : TyOf K H (.ref a) (.type "tuple")
  | dK {a : Addr} {kvs : List (Key × V)} (e : H a = some (.dK kvs)) : TyOf K H (.ref a) (.type "dict")
  | dT {a : Addr} {kvs : List (List Key × V)} (e : H a = some (.dT kvs)) : TyOf K H (.ref a) (.type "dict")
  | ins {a C dx : Addr} {fs : List (Str × V)} (e : H a = some (.ins C dx fs)) (cl : Cls K C) (ha : PySem.W.findIn K (.ref C) "__class__" = some (some (.builtin "object.__class__")))
      (hn : PySem.W.specialIn K (.builtin "object.__class__") "__get__" = some (some (.builtin "getset_descriptor.__get__"))) (htk : PySem.W.takesIn K (.builtin "object.__class__") = some true)
      (hm : PySem.W.mroIn K C (.type "object") = some true) : TyOf K H (.ref a) (.ref C)
theorem isinst_ok {x : V} {u t : Value} (I : Inv X pins σ H s) (rx : RelV x u) (ty : TyOf X.K H x t) (e : PySem.W.kitOne X.K t c = some b) (h : ∀ tk, Q (.bool b) { s with toks := tk }) :
    wpAny (model X.prog X.w) A (call (.builtin "isinstance") [u, c]) Q E s := by
  cases ty with
  | non => cases (show u = Value.none from rx); exact PySem.W.kia_one PySem.W.kitx_none I.kIn True.intro e (fun z => nomatch z) h
  | bl y => cases (show u = Value.bool y from rx); exact PySem.W.kia_one PySem.W.kitx_bool I.kIn True.intro e (fun z => nomatch z) h
  | int i => obtain ⟨t, q⟩ := (show ∃ t, u = Value.int i t from rx); cases q; exact PySem.W.kia_one PySem.W.kitx_int I.kIn True.intro e (fun z => nomatch z) h
  | str y => obtain ⟨t, q⟩ := (show ∃ t, u = Value.str y t from rx); cases q; exact PySem.W.kia_one PySem.W.kitx_str I.kIn True.intro e (fun z => nomatch z) h
  | flt y => obtain ⟨t, q⟩ := (show ∃ t, u = Value.float y t from rx); cases q; exact PySem.W.kia_one PySem.W.kitx_float I.kIn True.intro e (fun z => nomatch z) h
  | @lst a xs ea =>
    cases (show u = Value.ref a from rx)
    obtain ⟨_, _, n, _, h1⟩ := (show ObjOk X.prog X.w H s.heap a (.lst xs) from I.hok a _ ea)
    exact PySem.W.kia_one PySem.W.kitx_list I.kIn ⟨_, h1, rfl⟩ e (fun z => nomatch z) h
  | @frz a ob xs ea =>
    cases (show u = Value.ref a from rx)
    obtain ⟨_, _, _, n, _, h1⟩ := (show ObjOk X.prog X.w H s.heap a (.frz ob (.lst xs)) from I.hok a _ ea)
    exact PySem.W.kia_one PySem.W.kitx_list I.kIn ⟨_, h1, rfl⟩ e (fun z => nomatch z) h
  | @tup a xs ea =>
    cases (show u = Value.ref a from rx)
    obtain ⟨_, _, _, p⟩ := (show ObjOk X.prog X.w H s.heap a (.tup xs) from I.hok a _ ea)
    obtain ⟨o, h1, h2, _⟩ := p
    exact PySem.W.kia_one PySem.W.kitx_tuple I.kIn ⟨o, h1, h2⟩ e (fun z => nomatch z) h
  | @dK a kvs ea =>
    cases (show u = Value.ref a from rx)
    obtain ⟨_, _, vs, _, p⟩ := (show ObjOk X.prog X.w H s.heap a (.dK kvs) from I.hok a _ ea)
    obtain ⟨o, es, ep, h1, h2, _⟩ := p
    exact PySem.W.kia_one PySem.W.kitx_dict I.kIn ⟨o, h1, h2.1⟩ e (fun z => nomatch z) h
  | @dT a kvs ea =>
    cases (show u = Value.ref a from rx)
    obtain ⟨_, _, xs, _, o, es, ep, h1, h2, _⟩ := (show ObjOk X.prog X.w H s.heap a (.dT kvs) from I.hok a _ ea)
    exact PySem.W.kia_one PySem.W.kitx_dict I.kIn ⟨o, h1, h2.1⟩ e (fun z => nomatch z) h
  | @ins a C dx fs ea cl ha hn htk hm =>
    cases (show u = Value.ref a from rx)
    obtain ⟨mA, O, _⟩ := ins_get I.hok ea
    obtain ⟨od, J, _⟩ := O.look
    exact PySem.W.kia_one (PySem.W.kitx_own (cl.get _) cl.hd ha hn htk hm) I.kIn J e (fun z => nomatch z) h
end
end L2

namespace L2
open PySem PySem.Spec PyProof.Rows

/-! ### room -/
structure Room (k : Nat) (A : Around) : Prop where
  hd : A.handled = none
  dp : A.depth + 3 * k + 5 < recursionLimit
  un : A.units + 16 * k + 200 < cLine
theorem Room.mono {j k : Nat} {A : Around} (r : Room k A) (h : j ≤ k) : Room j A := ⟨r.hd, by have := r.dp; omega, by have := r.un; omega⟩
theorem Room.deeper {k : Nat} {A : Around} (r : Room (k + 1) A) (env : Env) : Room k (A.deeper env) :=
  ⟨r.hd, by have := r.dp; show A.depth + 1 + 3 * k + 5 < _; omega, by have := r.un; show A.units + 3 + 16 * k + 200 < _; omega⟩
theorem Room.depth {k : Nat} {A : Around} (r : Room k A) : A.depth < recursionLimit := by have := r.dp; omega
theorem Room.units {k : Nat} {A : Around} (r : Room k A) : A.units + 64 < cLine := by have := r.un; omega
/-! ### argument lists and displays -/
def tNil : TA := fun _ H Q => Q [] H
def tCons (ta : TE) (tr : TA) : TA := fun σ H Q => ta σ H fun x H1 => tr σ H1 fun xs H2 => Q (x :: xs) H2
section
variable {X : Cx} {e : Expr} {es : List Expr} {te : TE} {t : TA} {pos : Pos}
theorem pa_nil : PA X [] tNil := fun _ _ _ _ H Q I h => Calls.spliced_nil ⟨[], H, I, .nil, h⟩
theorem pa_cons (ha : PE X e te) (hr : PA X es t) (hs : starEach (e :: es) X.env = (false, eval e X.env) :: starEach es X.env := by rfl) : PA X (e :: es) (tCons te t) := by
  intro pos pins s σ H Q I h
  rw [hs]
  show wpAny _ _ (spliced ((false, eval e X.env) :: backTo pos (starEach es X.env))) _ _ s
  refine Calls.spliced_cons (thn (ha pins s σ H _ I h) fun u s1 ⟨x, H1, I1, r1, q1⟩ => ?_)
  exact thn (hr pos pins s1 σ H1 _ I1 q1) fun us s2 ⟨xs, H2, I2, r2, q2⟩ => ⟨x :: xs, H2, I2, .cons r1 r2, q2⟩

def tTup (t : TA) : TE := fun σ H Q => t σ H fun xs H1 => xs.length ≤ sizeLine ∧ ∀ p, H1 p = none → Q (.ref p) (upd H1 p (.tup xs))
def tLst (t : TA) : TE := fun σ H Q => t σ H fun xs H1 => xs.length ≤ sizeLine ∧ ∀ p, H1 p = none → Q (.ref p) (upd H1 p (.lst xs))
theorem pe_tup {x1} (h : PA X es t) : PE X (.Tuple es x1 pos) (tTup t) := by
  intro pins s σ H Q I hq
  refine wpAny_Tuple_spliced (thn (h pos pins s σ H _ I hq) fun us s1 ⟨xs, H1, I1, r, z, q⟩ => ⟨by rw [← r.length]; exact z, ?_⟩)
  have hf : H1 s1.heap.objs.size = none := I1.hok.fresh (Nat.le_refl _)
  refine ⟨.ref s1.heap.objs.size, upd H1 s1.heap.objs.size (.tup xs), I1.laid (t' := s1.toks) (fun b u e => Heap.get?_push_of_some _ e) (Nat.le_refl _) ?_, rfl, q _ hf⟩
  exact ⟨z, us, r, ⟨_, Heap.get?_push_size _ rfl, rfl, _, rfl⟩⟩
theorem pe_lst (h : PA X es t) : PE X (.List es pos) (tLst t) := by
  intro pins s σ H Q I hq
  refine wpAny_List_spliced (thn (h pos pins s σ H _ I hq) fun us s1 ⟨xs, H1, I1, r, z, q⟩ => ⟨by rw [← r.length]; exact z, ?_⟩)
  have hf : H1 s1.heap.objs.size = none := I1.hok.fresh (Nat.le_refl _)
  refine ⟨.ref s1.heap.objs.size, upd H1 s1.heap.objs.size (.lst xs), I1.laid (t' := s1.toks) (fun b u e => Heap.get?_push_of_some _ e) (Nat.le_refl _) ?_, rfl, q _ hf⟩
  exact ⟨z, us, 0, r, Heap.get?_push_size _ rfl⟩
end

/-! ### what a def promises -/
abbrev Sp := List V → Hp → VK → XK → Prop
abbrev CXT := List Env → Hp → Shared → XK → Value → Shared → Prop

structure Env0 (P : Program) (w : World) (K : PySem.W.Frag) (mg : Str → Option Value) (base : Heap) (A : Around) (outer : List Env) (s : Shared) (H : Hp) : Prop where
  frames : A.frames = some outer
  mod : Mod K mg base
  bs : ∀ b o, base.get? b = some o → s.heap.get? b = some o ∧ H b = none
  bsz : base.objs.size ≤ s.heap.objs.size
  funs : s.heap.FunFrames base outer
  frf : ∀ b ∈ frs outer, H b = none
  hok : HOk P w H s.heap
  bare : AllBare s.gens
def CE (outer : List Env) (P : Program) (w : World) (H : Hp) (s : Shared) (Q : VK) (u : Value) (s' : Shared) : Prop :=
  ∃ v H', s'.os = s.os ∧ AllBare s'.gens ∧ Un (frs outer) [] H H' s.heap s'.heap ∧ HOk P w H' s'.heap ∧ RelV v u ∧ Q v H'
def CR (CX : CXT) (outer : List Env) (P : Program) (w : World) (H : Hp) (s : Shared) (Q : VK) (E : XK) (r : Result) (s' : Shared) : Prop :=
  match r with
  | .ok (.ret u) => CE outer P w H s Q u s'
  | .ok _ => False
  | .error e => CX outer H s E e s'
structure FnOk (P : Program) (w : World) (K : PySem.W.Frag) (mg : Str → Option Value) (base : Heap) (CX : CXT) (k : Nat) (f : Addr) (fd : FuncData) (ps : List Str) (sp : Sp) : Prop where
  len : ∀ vs H Q E, sp vs H Q E → vs.length = ps.length
  run : ∀ (A : Around) (outer : List Env) (s : Shared) (H : Hp) (args : Args) (us : List Value) (vs : List V) (Q : VK) (E : XK), Room k A → Env0 P w K mg base A outer s H → BindsTo s fd args (ps.zip us) → Vals vs us → sp vs H Q E →
    codeAny (model P w) A (.call (.ref f) args) (CR CX outer P w H s Q E) s
section
variable {X : Cx} {pins : List (Addr × Obj)} {σ : St} {H : Hp} {s s' : Shared}
theorem Inv.env0 (I : Inv X pins σ H s) : Env0 X.prog X.w X.K X.mg X.base X.A X.stack s H :=
  ⟨I.ok.frames, I.ok.mod, I.bs, Nat.le_trans I.ok.bsz I.sz, I.stack, I.stkFree, I.hok, I.bare⟩
theorem Inv.after {Q : VK} {u : Value} (I : Inv X pins σ H s) (h : CE X.stack X.prog X.w H s Q u s') : EP X pins σ Q u s' := by
  obtain ⟨v, H', os, bare, un, hok, r, q⟩ := h
  obtain ⟨hh, g, d, t, os'⟩ := s'
  obtain rfl : os' = s.os := os
  exact ⟨v, H', I.call (h' := hh) (g' := g) (d' := d) (t' := t) (ch := []) un hok bare (fun b z => absurd z (by simp)), r, q⟩
end

/-! ### calls -/
def Binds (K : PySem.W.Frag) (fd : FuncData) (ps : List Str) (ds : List Value) : Prop :=
  ∀ (s : Shared) (us : List Value), K.In s.heap → (us ++ ds).length = ps.length → BindsTo s fd ⟨us, []⟩ (ps.zip (us ++ ds))
theorem Binds.all {K : PySem.W.Frag} {fd : FuncData} {ps : List Str} (h : ∀ us : List Value, us.length = ps.length → bindArgs fd ⟨us, []⟩ = pure (ps.zip us)) : Binds K fd ps [] := fun s us _ hl => by
  rw [List.append_nil] at hl ⊢
  exact .of_eq (h us hl)

def Passes (CX : CXT) (X : Cx) (E : XK) : Prop := ∀ (pins : List (Addr × Obj)) (σ : St) (H : Hp) (s : Shared) (e : Value) (s' : Shared), Inv X pins σ H s → CX X.stack H s E e s' → X.xe e s'

section
variable {X : Cx} {CX : CXT} {k : Nat} {f C : Addr} {fd : FuncData} {ps : List Str} {sp : Sp} {dvs : List V} {ds : List Value} {E : XK} {x m : Str} {p pos apos : Pos} {e o : Expr} {es : List Expr} {ta : TE} {t : TA}

theorem run_fn {pins : List (Addr × Obj)} {σ : St} {H : Hp} {s : Shared} {Q : VK} {us : List Value} {vs : List V} (F : FnOk X.prog X.w X.K X.mg X.base CX k f fd ps sp) (hr : Room k X.A) (hb : Binds X.K fd ps ds) (hd : Vals dvs ds) (hx : Passes CX X E)
    (I : Inv X pins σ H s) (r : Vals vs us) (h : sp (vs ++ dvs) H Q E) : wpAny (model X.prog X.w) X.A (call (.ref f) us) (EP X pins σ Q) X.xe s := by
  have r2 : Vals (vs ++ dvs) (us ++ ds) := r.append hd
  have hl : (us ++ ds).length = ps.length := by rw [← r2.length]; exact F.len _ _ _ _ h
  refine wpAny_call (codeAny_mono (F.run X.A X.stack s H ⟨us, []⟩ (us ++ ds) (vs ++ dvs) Q E hr I.env0 (hb s us I.kIn hl) r2 h) fun r s' hq => ?_)
  cases r with
  | error e => exact hx pins σ H s e s' I hq
  | ok fl =>
    cases fl with
    | ret u => exact I.after hq
    | next => exact False.elim hq
    | brk => exact False.elim hq
    | cont => exact False.elim hq

structure Mk (K : PySem.W.Frag) (C f : Addr) : Prop where
  makes : PySem.W.makesIn K C = true
  init : PySem.W.findIn K (.ref C) "__init__" = some (some (.ref f))
  fn : PySem.W.isFn K (.ref f) = true
  kp : PySem.W.keepIn K (.ref C) = true

end

/-! ### keywords -/
section
variable {X : Cx} {CX : CXT} {k : Nat} {f C : Addr} {fd : FuncData} {ps ks : List Str} {sp : Sp} {E : XK} {x m : Str} {p pos apos kpos : Pos} {e o : Expr} {es : List Expr} {kws : List Keyword} {te ta : TE} {t tk : TA} {nm : Option Str}
variable {g : List Value → List Value → List Value} {gV : List V → List V → List V}
end

/-! ### a def's body keeps its promise -/
structure FnScope (N P : List Str) (sc : Scope) : Prop where
  kind : sc.kind = .function
  co : sc.isCoroutine = false
  gen : sc.isGenerator = false
  nd : N.Nodup
  pre : N.take P.length = P
  par : ∀ x ∈ P, sc.names.lookup x = some .local ∨ sc.names.lookup x = some .cell
  nofree : ∀ y ∈ sc.names, y.2 ≠ .free

theorem bindL_out {kindOf : Str → Option NameKind} {x : Str} : ∀ {binds : List (Str × Value)} {m : Str → Option Value}, (∀ v, (x, v) ∉ binds) → bindL kindOf binds m x = m x
  | [], _, _ => rfl
  | (n, v) :: r, m, h => by
    unfold bindL
    rw [bindL_out fun w hw => h w (List.mem_cons_of_mem _ hw)]
    split
    · have : x ≠ n := by rintro rfl; exact h v List.mem_cons_self
      simp [this]
    · rfl
theorem bindC_out {kindOf : Str → Option NameKind} {x : Str} : ∀ {binds : List (Str × Value)} {m : Str → Option Value}, (∀ v, (x, v) ∉ binds) → bindC kindOf binds m x = m x
  | [], _, _ => rfl
  | (n, v) :: r, m, h => by
    unfold bindC
    rw [bindC_out fun w hw => h w (List.mem_cons_of_mem _ hw)]
    split
    · rfl
    · have : x ≠ n := by rintro rfl; exact h v List.mem_cons_self
      simp [this]
theorem bindL_get {kindOf : Str → Option NameKind} {x : Str} {v : Value} : ∀ {P : List Str} {vs : List Value} {i : Nat} {m : Str → Option Value}, P.Nodup → P[i]? = some x → vs[i]? = some v → kindOf x = some .local →
    bindL kindOf (P.zip vs) m x = some v
  | [], _, _, _, _, h, _, _ => by simp at h
  | _ :: _, [], _, _, _, _, h, _ => by simp at h
  | p :: P, w :: vs, 0, m, nd, h1, h2, hk => by
    simp at h1 h2; subst h1; subst h2
    show bindL kindOf ((p, w) :: P.zip vs) m p = _
    unfold bindL
    rw [bindL_out fun v hv => (List.nodup_cons.mp nd).1 (List.of_mem_zip hv).1, if_pos hk]
    simp
  | p :: P, w :: vs, i + 1, m, nd, h1, h2, hk => by
    show bindL kindOf ((p, w) :: P.zip vs) m x = _
    unfold bindL
    exact bindL_get (i := i) (List.nodup_cons.mp nd).2 (by simpa using h1) (by simpa using h2) hk
theorem bindC_get {kindOf : Str → Option NameKind} {x : Str} {v : Value} : ∀ {P : List Str} {vs : List Value} {i : Nat} {m : Str → Option Value}, P.Nodup → P[i]? = some x → vs[i]? = some v → kindOf x ≠ some .local →
    bindC kindOf (P.zip vs) m x = some v
  | [], _, _, _, _, h, _, _ => by simp at h
  | _ :: _, [], _, _, _, _, h, _ => by simp at h
  | p :: P, w :: vs, 0, m, nd, h1, h2, hk => by
    simp at h1 h2; subst h1; subst h2
    show bindC kindOf ((p, w) :: P.zip vs) m p = _
    unfold bindC
    rw [bindC_out fun v hv => (List.nodup_cons.mp nd).1 (List.of_mem_zip hv).1, if_neg hk]
    simp
  | p :: P, w :: vs, i + 1, m, nd, h1, h2, hk => by
    show bindC kindOf ((p, w) :: P.zip vs) m x = _
    unfold bindC
    exact bindC_get (i := i) (List.nodup_cons.mp nd).2 (by simpa using h1) (by simpa using h2) hk

def start (N : List Str) (vs : List V) : St := vs.map some ++ List.replicate (N.length - vs.length) none

def cxOf (CX : CXT) (P : Program) (w : World) (K : PySem.W.Frag) (mg : Str → Option Value) (base : Heap) (N : List Str) (qual : Str) (scope : Scope) (f : Addr) (cd : Value) (A : Around) (outer : List Env) (s : Shared) (H : Hp) (E : XK) : Cx where
  prog := P
  w := w
  K := K
  mg := mg
  base := base
  A := A.deeper (envOfC qual scope s.heap.objs.size f cd)
  N := N
  s₀ := s
  H₀ := H
  env := envOfC qual scope s.heap.objs.size f cd
  outer := outer
  stack := envOfC qual scope s.heap.objs.size f cd :: outer
  ex := []
  calm := true
  fn := fun _ => true
  pn := []
  xe := fun e s' => wpAny (model P w) (A.deeper (envOfC qual scope s.heap.objs.size f cd)) (leaving (envOfC qual scope s.heap.objs.size f cd) e) (fun _ s'' => CX outer H s E e s'') (fun e' s'' => CX outer H s E e' s'') s'

theorem cell_has {sc : Scope} {n : Nat} {x : Str} (h : sc.names.lookup x = some .cell) : ∃ c, (cellsFrom n sc.names []).lookup x = some c := by
  have q := PySem.W.cellsFrom_some sc.names n [] (.inl h)
  exact Option.isSome_iff_exists.mp q

theorem inv_start {CX : CXT} {P : Program} {w : World} {K : PySem.W.Frag} {mg : Str → Option Value} {base : Heap} {N ps : List Str} {qual : Str} {scope : Scope} {f : Addr} {cd : Value} {A : Around} {outer : List Env} {s s1 : Shared} {H : Hp} {E : XK} {us : List Value} {vs : List V}
    (S : FnScope N ps scope) (hd : A.handled = none) (e0 : Env0 P w K mg base A outer s H) (hl : vs.length = ps.length) (r : Vals vs us)
    (x : InCallC s s.heap.objs.size (bindL (envOfC qual scope s.heap.objs.size f cd).kindOf (ps.zip us) fun _ => none) (cellsFrom (s.heap.objs.size + 1) scope.names []) (bindC (envOfC qual scope s.heap.objs.size f cd).kindOf (ps.zip us) fun _ => none) s1) :
    Inv (cxOf CX P w K mg base N qual scope f cd A outer s H E) [] (start N vs) H s1 := by
  have hpl : ps.length ≤ N.length := by have := congrArg List.length S.pre; rw [List.length_take] at this; omega
  obtain ⟨h1, tk, rfl, hk⟩ := x.done
  have noA : ∀ b : Addr, b ∉ (cxOf CX P w K mg base N qual scope f cd A outer s H E).ex := fun b z => absurd (show b ∈ ([] : List Addr) from z) (by simp)
  refine ⟨⟨e0.mod, S.kind, rfl, rfl, Nat.le_refl _, fun y z c h1 h2 => ?_, fun y hy => ?_, fun y c _ h => ?_, fun _ => hd, Around.frames_deeper e0.frames, .inr ⟨rfl, rfl⟩, fun b z => absurd z (noA b), e0.bs, e0.bsz, fun b _ _ => noA b, fun b z => absurd z (noA b), e0.funs, e0.frf⟩,
    rfl, e0.bare, Un.kept hk, ⟨_, x.toInCall.ns, fun i y v h1 h2 h3 => ?_⟩, fun y c h => ⟨_, x.cell y c h⟩, e0.hok.fresh (Nat.le_refl _), fun y c h => ?_, fun p hp => absurd (show p ∈ ([] : List (Addr × Obj)) from hp) (by simp), e0.hok.kept hk, ?_⟩
  · exact name_of_addr x.apart (PySem.mem_of_lookup h1) (PySem.mem_of_lookup h2)
  · have hy : scope.names.lookup y = some .cell ∨ scope.names.lookup y = some .free := hy
    rcases hy with hy | hy
    · exact cell_has hy
    · exact absurd rfl (S.nofree _ (PySem.mem_of_lookup hy))
  · exact Nat.le_of_lt (x.above y c (PySem.mem_of_lookup h))
  · have hi : i < vs.length := by
      unfold start at h2
      by_cases hi : i < vs.length
      · exact hi
      · rw [List.getElem?_append_right (by simpa using hi)] at h2
        rw [List.getElem?_replicate] at h2
        split at h2 <;> cases h2
    have ha : vs[i]? = some v := by
      unfold start at h2
      rw [List.getElem?_append_left (by simpa using hi), List.getElem?_map] at h2
      cases e : vs[i]? with
      | none => rw [e] at h2; cases h2
      | some a => rw [e] at h2; cases h2; rfl
    obtain ⟨u, hu, rv⟩ := r.get ha
    have hp : ps[i]? = some y := by
      rw [← S.pre, List.getElem?_take_of_lt (by omega)]; exact h1
    have ndP : ps.Nodup := by rw [← S.pre]; exact S.nd.sublist (List.take_sublist _ _)
    refine ⟨u, rv, ?_⟩
    rcases S.par y (List.mem_of_getElem? hp) with k | k
    · exact .inl ⟨k, bindL_get ndP hp hu k⟩
    · obtain ⟨c, e⟩ := cell_has (n := s.heap.objs.size + 1) k
      refine .inr ⟨.inl k, c, e, ?_⟩
      have q := x.cell y c e
      rw [bindC_get ndP hp hu (by show scope.names.lookup y ≠ _; rw [k]; decide)] at q
      exact q
  · exact e0.hok.fresh (Nat.le_of_lt (x.above y c (PySem.mem_of_lookup h)))
  · unfold start
    show _ = N.length
    rw [List.length_append, List.length_map, List.length_replicate]
    omega

theorem fn_of {CX : CXT} {P : Program} {w : World} {K : PySem.W.Frag} {mg : Str → Option Value} {base : Heap} {k : Nat} {f : Addr} {name qual : Str} {params : Arguments} {body : List Stmt} {scope : Scope} {dV kV doc pm cdv ct oc : Value} {an od : Option Addr}
    {osl : Array (Option Value)} {N ps : List Str} {sp : Sp} (lk : K.lookup f = some ⟨oc, od, .func (PySem.W.fnOf name qual params body scope dV kV doc pm an cdv ct), osl⟩) (hcd : PySem.W.codeIn K cdv qual = true) (S : FnScope N ps scope)
    (len : ∀ vs H Q E, sp vs H Q E → vs.length = ps.length)
    (hbody : ∀ (A : Around) (outer : List Env) (s : Shared) (H : Hp) (vs : List V) (Q : VK) (E : XK), Room k (A.deeper (envOfC qual scope s.heap.objs.size f cdv)) → sp vs H Q E →
      ∃ t, PSs (cxOf CX P w K mg base N qual scope f cdv A outer s H E) body t ∧ t { nx := fun _ H' => Q .non H', rt := Q } (start N vs) H) :
    FnOk P w K mg base CX (k + 1) f (PySem.W.fnOf name qual params body scope dV kV doc pm an cdv ct) ps sp := by
  refine ⟨len, fun A outer s H args us vs Q E hr e0 hb r hsp => ?_⟩
  have hl := len _ _ _ _ hsp
  have KX : K.In s.heap := e0.mod.kin.keeps fun b o e => (e0.bs b o e).1
  have lim : s.heap.NoLimit := e0.mod.nolimit.keeps fun b o e => (e0.bs b o e).1
  have hkind : ∀ y ∈ ps.zip us, scope.names.lookup y.1 = some .local ∨ (scope.names.lookup y.1 = some .cell ∧ ((cellsFrom (s.heap.objs.size + 1) scope.names []).lookup y.1).isSome = true) := fun ⟨n, v⟩ hy => by
    rcases S.par n (List.of_mem_zip hy).1 with q | q
    · exact .inl q
    · exact .inr ⟨q, PySem.W.cellsFrom_some _ _ _ (.inl q)⟩
  refine codeAny_call_function hr.depth (KX _ _ lk) rfl S.co S.gen rfl (PySem.W.codeRec_of KX hcd) (hb _ _ _ _ ?_)
  refine wpAny_newFunctionEnv_cells S.kind hkind fun env he s1 x => ?_
  subst he
  refine ⟨lim.keeps x.toInCall.keep, codeAny_func ?_⟩
  obtain ⟨t, ht, hq⟩ := hbody A outer s H vs Q E (hr.deeper _) hsp
  have I : Inv (cxOf CX P w K mg base N qual scope f cdv A outer s H E) [] (start N vs) H s1 := inv_start S hr.hd e0 hl r x
  refine wpAny_mono (ht [] s1 (start N vs) H _ I hq) (fun fl s' hs => ?_) fun e s' hs => hs
  have fin : ∀ {σ' : St} {H' : Hp} {v : V} {u : Value}, Inv (cxOf CX P w K mg base N qual scope f cdv A outer s H E) [] σ' H' s' → RelV v u → Q v H' → CE outer P w H s Q u s' :=
    fun {σ' H' v u} J rv q => ⟨v, H', J.os, J.bare, J.base, J.hok, rv, q⟩
  cases fl with
  | ret u =>
    obtain ⟨v, σ', H', J, rv, q⟩ := hs
    exact fin J rv q
  | next =>
    obtain ⟨σ', H', J, q⟩ := hs
    exact fin (v := V.non) (u := Value.none) J rfl q
  | brk =>
    obtain ⟨_, _, _, q⟩ := hs
    exact False.elim q
  | cont =>
    obtain ⟨_, _, _, q⟩ := hs
    exact False.elim q
end L2

namespace L2
open PySem PySem.Spec PyProof.Rows
section
variable {X : Cx} {x : Str} {p pos : Pos} {e : Expr} {es : List Expr} {t : TA} {id T : String} {r : List V → Hp → VK → Prop}

def tCB (r : List V → Hp → VK → Prop) (t : TA) : TE := fun σ H Q => t σ H fun vs H1 => r vs H1 Q
theorem pe_callB (hc : CallR X (.builtin id) r) (hg : Gl X x) (hm : X.mg x = none) (hv : bootBuiltins x = some (.builtin id)) (ha : PA X (e :: es) t) (hn : x ≠ "__name__" := by decide) (hdb : (x == ("__debug__" : Str)) = false := by decide)
    (he : starEach (e :: es) X.env = (false, eval e X.env) :: starEach es X.env := by rfl) (hpl : (backTo pos (starEach es X.env)).any (·.1) = false := by rfl) : PE X (.Call (.Name x p) (e :: es) [] pos) (tCB r t) := by
  intro pins s σ H Q I h
  refine wpAny_Call_Name_kw (ld_blt I hg hm hv ?_ hn hdb)
  exact PyProof.Rows.callWith_builtin1 (thn (ha pos pins s σ H _ I h) fun us s1 ⟨vs, H1, I1, r1, q1⟩ => hc pins s1 σ H1 vs us Q I1 r1 q1) he hpl
theorem pe_callTy (hc : CallR X (.type T) r) (hg : Gl X x) (hm : X.mg x = none) (hv : bootBuiltins x = some (.type T)) (ha : PA X (e :: es) t) (hn : x ≠ "__name__" := by decide) (hdb : (x == ("__debug__" : Str)) = false := by decide)
    (he : starEach (e :: es) X.env = (false, eval e X.env) :: starEach es X.env := by rfl) (hpl : (backTo pos (starEach es X.env)).any (·.1) = false := by rfl) : PE X (.Call (.Name x p) (e :: es) [] pos) (tCB r t) := by
  intro pins s σ H Q I h
  refine wpAny_Call_Name_kw (ld_blt I hg hm hv ?_ hn hdb)
  exact PyProof.Rows.callWith_type1 (thn (ha pos pins s σ H _ I h) fun us s1 ⟨vs, H1, I1, r1, q1⟩ => hc pins s1 σ H1 vs us Q I1 r1 q1) he hpl
end
end L2

namespace HT
open PySem PyProof.Rows

def lexLt : List Int → List Int → Bool
  | [], [] => false
  | [], _ :: _ => true
  | _ :: _, [] => false
  | x :: xs, y :: ys => if x = y then lexLt xs ys else decide (x < y)
section
open PySem.SeqAt
open PySem.AutoSeq1 (wpAny_loadPart')
open PySem.MeetsSeq PySem.MeetsSeq2 PySem.MeetsSeq3

end

section
variable {prog : Program} {w : World} {A : Around} {E : Value → Shared → Prop} {s : Shared}

/-! ### t[a:b], not the whole -/
def sIx (n d : Nat) : Option Int → Nat
  | none => d
  | some v => if v < 0 then (v + (n : Int)).toNat else min v.toNat n
theorem sIx_none (n d : Nat) : sIx n d none = d := rfl
theorem sIx_nat (n d k : Nat) : sIx n d (some (k : Int)) = min k n := by
  show (if (k : Int) < 0 then ((k : Int) + (n : Int)).toNat else min (k : Int).toNat n) = min k n
  rw [if_neg (by omega), Int.toNat_natCast]
theorem sIx_le (n d : Nat) (hd : d ≤ n) (o : Option Int) : sIx n d o ≤ n := by
  cases o with
  | none => exact hd
  | some v =>
    show (if v < 0 then (v + (n : Int)).toNat else min v.toNat n) ≤ n
    by_cases hv : v < 0
    · rw [if_pos hv]; omega
    · rw [if_neg hv]; exact Nat.min_le_right _ _
theorem clip_eq (v : Int) (n d : Nat) : (if v < 0 then max (v + (n : Int)) 0 else min v (n : Int)) = ((sIx n d (some v) : Nat) : Int) := by
  show (if v < 0 then max (v + (n : Int)) 0 else min v (n : Int)) = (((if v < 0 then (v + (n : Int)).toNat else min v.toNat n) : Nat) : Int)
  by_cases hv : v < 0
  · simp only [if_pos hv]; omega
  · simp only [if_neg hv]; omega
theorem adjust_gen (lo hi : Option Int) (n : Nat) : Builtin.Slice.sliceAdjust lo hi 1 (n : Int) = (((sIx n 0 lo : Nat) : Int), ((sIx n n hi : Nat) : Int)) := by
  have h1 : ¬ ((1 : Int) < 0) := by omega
  unfold Builtin.Slice.sliceAdjust
  simp only [h1, if_false]
  refine Prod.ext ?_ ?_
  · cases lo with
    | none => rfl
    | some v => exact clip_eq v n 0
  · cases hi with
    | none => rfl
    | some v => exact clip_eq v n n
theorem places_gen (i j : Nat) : Builtin.Slice.slicePlaces (i : Int) (j : Int) 1 = j - i := by
  unfold Builtin.Slice.slicePlaces
  have h1 : (1 : Int) > 0 := by omega
  simp only [h1, if_true, Int.ediv_one]
  split <;> omega
theorem slicePart_ {v : Value} {o : Option Int} {Q : Option Int → Shared → Prop} (p : IsPart v o) (h : Q o s) : wpAny (model prog w) A (Builtin.Slice.slicePartIndex v) Q E s := by
  cases p with
  | none => exact slicePart_none h
  | int i t => exact slicePart_int h
theorem sliceApplied_gen {sl : Addr} {vl vu : Value} {lo hi : Option Int} {n : Nat} {Q : Int × Int × Nat → Shared → Prop} (hs : s.heap.IsSliceOf sl vl vu .none) (pl : IsPart vl lo) (pu : IsPart vu hi)
    (h : Q (((sIx n 0 lo : Nat) : Int), 1, sIx n n hi - sIx n 0 lo) s) : wpAny (model prog w) A (Builtin.Slice.sliceApplied (.ref sl) (pure (n : Int))) Q E s := by
  obtain ⟨os, hos, hcs, hds⟩ := id hs
  unfold Builtin.Slice.sliceApplied Builtin.Slice.sliceFields
  refine wpAny_bind (wpAny_bind (wpAny_field hos hds (x := vl) rfl (wpAny_bind (wpAny_field hos hds (x := vu) rfl (wpAny_bind (wpAny_field hos hds (x := .none) rfl (wpAny_pure ?_)))))))
  refine wpAny_bind (slicePart_none ?_)
  show wpAny _ _ (if ((1 : Int) == 0) = true then _ else _) _ _ s
  rw [if_neg (by decide)]
  refine wpAny_bind (slicePart_ pl (wpAny_bind (slicePart_ pu (wpAny_bind (wpAny_pure ?_)))))
  show wpAny _ _ (match Builtin.Slice.sliceAdjust lo hi 1 (n : Int) with | (lo, hi) => pure (lo, (1 : Int), Builtin.Slice.slicePlaces lo hi 1)) _ _ s
  rw [adjust_gen lo hi n]
  show wpAny _ _ (pure (((sIx n 0 lo : Nat) : Int), (1 : Int), Builtin.Slice.slicePlaces ((sIx n 0 lo : Nat) : Int) ((sIx n n hi : Nat) : Int) 1)) _ _ s
  rw [places_gen]
  exact wpAny_pure h
theorem pick_gen (xs : Array Value) (i k : Nat) : ((List.range k).filterMap fun (m : Nat) => xs[((i : Int) + (m : Int) * 1).toNat]?).toArray = ((xs.toList.drop i).take k).toArray := by
  have e : (fun (m : Nat) => xs[((i : Int) + (m : Int) * 1).toNat]?) = fun m => xs[i + m]? := by
    funext m
    have : ((i : Int) + (m : Int) * 1).toNat = i + m := by omega
    rw [this]
  rw [e]
  have := pick_run xs i k
  rw [List.filterMap_map] at this
  have e2 : ((fun x => xs[x]?) ∘ fun x => i + x) = fun m => xs[i + m]? := rfl
  rw [e2] at this
  rw [this]

theorem getItem_tuple_cut {t sl : Addr} {items : Array Value} {vl vu : Value} {lo hi : Option Int} {Q : Value → Shared → Prop} (ht : IsTup s.heap t items) (hs : s.heap.IsSliceOf sl vl vu .none) (pl : IsPart vl lo) (pu : IsPart vu hi)
    (hw : ¬ (sIx items.size 0 lo = 0 ∧ sIx items.size items.size hi = items.size))
    (h : Q (.ref s.heap.objs.size) { s with heap := s.heap.push { cls := .type "tuple", data := .seq ((items.toList.drop (sIx items.size 0 lo)).take (sIx items.size items.size hi - sIx items.size 0 lo)).toArray } })
    (hsz : items.size ≤ sizeLine) : wpAny (model prog w) A (getItem (.ref t) (.ref sl)) Q E s := by
  have htake : sizeOk (.seq ((items.toList.drop (sIx items.size 0 lo)).take (sIx items.size items.size hi - sIx items.size 0 lo)).toArray) := by
    show ((items.toList.drop (sIx items.size 0 lo)).take (sIx items.size items.size hi - sIx items.size 0 lo)).toArray.size ≤ sizeLine
    rw [List.size_toArray, List.length_take, List.length_drop, Array.length_toList]
    omega
  have hj : sIx items.size items.size hi ≤ items.size := sIx_le _ _ (Nat.le_refl _) hi
  obtain ⟨os, hos, hcs, hds⟩ := id hs
  have hTs : s.TypeIs (.ref sl) "slice" := ⟨os, hos, hcs⟩
  unfold getItem
  try with_reducible refine wpAny_holding ?_
  first | refine wpAny_bind (wpAny_pure ?_) | skip
  refine wpAny_bind (wpAny_sequenceKey ht.typeIs (by decide) ?_)
  refine wpAny_bind (wpAny_callSpecial?_slot (name := Str.ofString "__getitem__") ht.typeIs PyProof.Rows.slot_tuple_getitem
    (wpAny_call_entry PyProof.Rows.slot_tuple_getitem ht.typeIs entry_tuple_getitem ?_ (args_tuple_getitem _ _)))
  show wpAny _ _ (Builtin.Tuple.tupleItemsOf (.ref t) >>= _) _ _ s
  refine wpAny_bind (tupleItemsOf_ ht ?_)
  refine wpAny_bind (wpAny_typeOf hTs ?_)
  rw [if_pos (by decide)]
  refine wpAny_bind (sliceApplied_gen hs pl pu ?_)
  have hno : ¬ ((((sIx items.size 0 lo : Nat) : Int) == 0 && (1 : Int) == 1 && (sIx items.size items.size hi - sIx items.size 0 lo) == items.size) = true) := by
    intro q
    rw [Bool.and_eq_true, Bool.and_eq_true] at q
    have q1 : ((sIx items.size 0 lo : Nat) : Int) = 0 := eq_of_beq q.1.1
    have q2 : sIx items.size items.size hi - sIx items.size 0 lo = items.size := eq_of_beq q.2
    exact hw ⟨by omega, by omega⟩
  show wpAny _ _ (if (((sIx items.size 0 lo : Nat) : Int) == 0 && (1 : Int) == 1 && (sIx items.size items.size hi - sIx items.size 0 lo) == items.size) = true then _ else _) _ _ s
  rw [if_neg hno, pick_gen]
  first
    | exact wpAny_bind (m := Builtin.Tuple.tupleExact _) (wpAny_newObj_type (wpAny_pure ⟨_, rfl, wpAny_pure h⟩) htake)
    | exact wpAny_bind (m := Builtin.Tuple.tupleExact _) (wpAny_newObj_type (wpAny_bind (wpAny_pure (wpAny_pure ⟨_, rfl, wpAny_pure h⟩))) htake)
    | exact wpAny_bind (wpAny_bind (m := Builtin.Tuple.tupleExact _) (wpAny_newObj_type (wpAny_pure (wpAny_pure ⟨_, rfl, wpAny_pure h⟩)) htake))
    | exact wpAny_bind (wpAny_bind (m := Builtin.Tuple.tupleExact _) (wpAny_newObj_type (wpAny_pure ⟨_, rfl, wpAny_pure h⟩) htake))
end
end HT

namespace L2
open PySem PySem.Spec PyProof.Rows

/-! ### the parts of a slice -/
abbrev TO := St → Hp → (Option Int → Hp → Prop) → Prop
def PO (X : Cx) (e : Option Expr) (t : TO) : Prop :=
  ∀ (pins : List (Addr × Obj)) (s : Shared) (σ : St) (H : Hp) (Q : Option Int → Hp → Prop), Inv X pins σ H s → t σ H Q →
    wpAny (model X.prog X.w) X.A (evalPart e X.env) (fun u s' => ∃ o H', Inv X pins σ H' s' ∧ IsPart u o ∧ Q o H') X.xe s
def tNoPart : TO := fun _ H Q => Q none H
def tPart (t : TE) : TO := fun σ H Q => t σ H fun x H1 => ∃ i, x = .int i ∧ Q (some i) H1

section
variable {X : Cx} {e : Expr} {te : TE} {lo hi : Option Expr} {tl th : TO} {pos p2 : Pos}

theorem po_none : PO X none tNoPart := by
  intro pins s σ H Q I h
  rw [evalPart_none]
  exact wpAny_pure ⟨none, H, I, .none, h⟩
theorem po_some (h : PE X e te) : PO X (some e) (tPart te) := by
  intro pins s σ H Q I hw
  rw [evalPart_some]
  refine thn (h pins s σ H _ I hw) fun u s1 ⟨x, H1, I1, r1, q1⟩ => ?_
  obtain ⟨i, rfl, q⟩ := q1
  obtain ⟨t, rfl⟩ := r1
  exact ⟨some i, H1, I1, .int i t, q⟩

def SlR (X : Cx) (r : V → Option Int → Option Int → Hp → VK → Prop) : Prop :=
  ∀ (pins : List (Addr × Obj)) (s : Shared) (σ : St) (H : Hp) (x : V) (v vl vu : Value) (lo hi : Option Int) (sl : Addr) (Q : VK), Inv X pins σ H s → RelV x v → s.heap.IsSliceOf sl vl vu .none → IsPart vl lo → IsPart vu hi → r x lo hi H Q →
    ∃ T id, typeLookup (.type T) "__getitem__" = pure (some (.builtin id)) ∧ s.TypeIs v T ∧ wpAny (model X.prog X.w) X.A (getItem v (.ref sl)) (EP X pins σ Q) X.xe s
def tSl (r : V → Option Int → Option Int → Hp → VK → Prop) (te : TE) (tl th : TO) : TE := fun σ H Q => te σ H fun x H1 => tl σ H1 fun l H2 => th σ H2 fun u H3 => r x l u H3 Q
theorem pe_slice {r : V → Option Int → Option Int → Hp → VK → Prop} (hr : SlR X r) (he : PE X e te) (hl : PO X lo tl) (hu : PO X hi th) : PE X (.Subscript e (.Slice lo hi none p2) pos) (tSl r te tl th) := by
  intro pins s σ H Q I h
  refine Subscript_ (thn (he pins s σ H _ I h) fun v s1 ⟨x, H1, I1, r1, q1⟩ => ?_)
  refine wpAny_Slice (thn (hl pins s1 σ H1 _ I1 q1) fun vl s2 ⟨l, H2, I2, pl, q2⟩ => thn (hu pins s2 σ H2 _ I2 q2) fun vu s3 ⟨u, H3, I3, pu, q3⟩ => ?_)
  rw [evalPart_none]
  refine wpAny_pure ?_
  have I4 : Inv X pins σ H3 { s3 with heap := s3.heap.push { cls := .type "slice", data := .fields #[vl, vu, .none] } } := I3.kept (t' := s3.toks) fun b ob q => Heap.get?_push_of_some _ q
  obtain ⟨T, id, hT, ht, hg⟩ := hr pins { s3 with heap := s3.heap.push { cls := .type "slice", data := .fields #[vl, vu, .none] } } σ H3 x v vl vu l u s3.heap.objs.size Q I4 r1 (Heap.IsSliceOf.new ..) pl pu q3
  show wpAny (model X.prog X.w) X.A (subscriptTail e (.Slice lo hi none p2) v (.ref s3.heap.objs.size)) (EP X pins σ Q) X.xe { s3 with heap := s3.heap.push { cls := .type "slice", data := .fields #[vl, vu, .none] } }
  exact tail_any (ops := [.ref s3.heap.objs.size, v]) ht hT hg (by with_unfolding_all rfl)

def cutV (xs : List V) (lo hi : Option Int) : List V := (xs.drop (HT.sIx xs.length 0 lo)).take (HT.sIx xs.length xs.length hi - HT.sIx xs.length 0 lo)
theorem cutV_length (xs : List V) (lo hi : Option Int) : (cutV xs lo hi).length ≤ xs.length := by
  unfold cutV
  rw [List.length_take, List.length_drop]
  omega
def rSlT (K : PySem.W.Frag) : V → Option Int → Option Int → Hp → VK → Prop := fun x lo hi H Q => ∃ a xs, x = .ref a ∧ SqT K H a xs ∧
  ¬ (HT.sIx xs.length 0 lo = 0 ∧ HT.sIx xs.length xs.length hi = xs.length) ∧ ∀ p, H p = none → Q (.ref p) (upd H p (.tup (cutV xs lo hi)))
theorem sl_tup : SlR X (rSlT X.K) := by
  intro pins s σ H x v vl vu lo hi sl Q I rx hs pl pu h
  obtain ⟨a, xs, rfl, hx, hw, q⟩ := h
  cases rx
  obtain ⟨its, r, ht, hz⟩ := I.tuple hx
  have hlen : its.toArray.size = xs.length := by rw [List.size_toArray]; exact r.length.symm
  refine ⟨"tuple", _, PyProof.Rows.slot_tuple_getitem.lookup, ht.typeIs, ?_⟩
  refine HT.getItem_tuple_cut ht hs pl pu (by rw [hlen]; exact hw) ?_ (by rw [hlen]; exact hz)
  rw [hlen]
  refine ⟨.ref s.heap.objs.size, _, I.laid (t' := s.toks) (o := .tup (cutV xs lo hi)) (fun b ob q => Heap.get?_push_of_some _ q) (Nat.le_refl _) ?_, rfl, q _ (I.hok.fresh (Nat.le_refl _))⟩
  exact ⟨Nat.le_trans (cutV_length xs lo hi) hz, _, (r.drop (HT.sIx xs.length 0 lo)).take (HT.sIx xs.length xs.length hi - HT.sIx xs.length 0 lo), IsTup.new _ _⟩

/-! ### t < u, t + u -/
end
end L2

namespace L2
open PySem PySem.Spec PyProof.Rows

/-! ### places -/
def ixN (n : Nat) (i : Int) : Option Nat := if 0 ≤ i then (if i < n then some i.toNat else none) else if -(n : Int) ≤ i then some (i + n).toNat else none
def atI {α : Type} (xs : List α) (i : Int) : Option α := (ixN xs.length i).bind fun j => xs[j]?
theorem ixN_seq {n : Nat} {i : Int} {j : Nat} (h : ixN n i = some j) : seqIndex? i n = some j ∧ j < n ∧ -(n : Int) ≤ i ∧ i < n := by
  unfold ixN at h
  by_cases h0 : 0 ≤ i
  · rw [if_pos h0] at h
    by_cases h1 : i < n
    · rw [if_pos h1] at h
      have e : i.toNat = j := Option.some.inj h
      exact ⟨by rw [seqIndex_of h0 h1, e], by omega, by omega, h1⟩
    · rw [if_neg h1] at h; cases h
  · rw [if_neg h0] at h
    by_cases h1 : -(n : Int) ≤ i
    · rw [if_pos h1] at h
      have e : (i + n).toNat = j := Option.some.inj h
      exact ⟨by rw [seqIndex_neg (by omega) h1, e], by omega, h1, by omega⟩
    · rw [if_neg h1] at h; cases h
theorem atI_get {α : Type} {xs : List α} {i : Int} {v : α} (h : atI xs i = some v) : ∃ j, seqIndex? i xs.length = some j ∧ xs[j]? = some v ∧ j < xs.length ∧ -(xs.length : Int) ≤ i ∧ i < xs.length := by
  unfold atI at h
  cases e : ixN xs.length i with
  | none => rw [e] at h; cases h
  | some j =>
    rw [e] at h
    obtain ⟨h1, h2, h3, h4⟩ := ixN_seq e
    exact ⟨j, h1, h, h2, h3, h4⟩
theorem atI_nat {α : Type} {xs : List α} {j : Nat} {v : α} (h : xs[j]? = some v) : atI xs (j : Int) = some v := by
  have hj : j < xs.length := (List.getElem?_eq_some_iff.mp h).1
  have e : ixN xs.length (j : Int) = some j := by
    unfold ixN
    rw [if_pos (by omega), if_pos (by omega)]; simp
  unfold atI; rw [e]; exact h
/-! ### what may be subscripted -/
def PlainIx (b : Expr) : Prop := ∀ o i, subscripted b false o i = operate [o, i] (getItem o i)
def IxR (X : Cx) (r : R2) : Prop :=
  ∀ (value slice : Expr) (pins : List (Addr × Obj)) (s : Shared) (σ : St) (H : Hp) (x y : V) (v u : Value) (Q : VK), Inv X pins σ H s → RelV x v → RelV y u → r x y H Q →
    subscripted slice false v u = operate [v, u] (getItem v u) → wpAny (model X.prog X.w) X.A (subscriptTail value slice v u) (EP X pins σ Q) X.xe s
def MtR (X : Cx) (id : String) (r : V → List V → Hp → VK → Prop) : Prop :=
  ∀ (pins : List (Addr × Obj)) (s : Shared) (σ : St) (H : Hp) (x : V) (xs : List V) (v : Value) (us : List Value) (Q : VK), Inv X pins σ H s → RelV x v → Vals xs us → r x xs H Q →
    wpAny (model X.prog X.w) X.A (call (.builtin id) (v :: us)) (EP X pins σ Q) X.xe s
section
variable {X : Cx} {a b : Expr} {ta tb : TE} {pos : Pos}
theorem pe_ix {r : R2} (hr : IxR X r) (ha : PE X a ta) (hb : PE X b tb) (hs : PlainIx b) : PE X (.Subscript a b pos) (tOp r ta tb) := by
  intro pins s σ H Q I h
  exact Subscript_ (binT ha hb I h fun v u s2 x y H2 I2 rx ry q => hr a b pins s2 σ H2 x y v u Q I2 rx ry q (hs _ _))

def rIxL (K : PySem.W.Frag) : R2 := fun x y H Q => ∃ p xs i v, x = .ref p ∧ y = .int i ∧ SqL K H p xs ∧ atI xs i = some v ∧ Q v H
def rIxT (K : PySem.W.Frag) : R2 := fun x y H Q => ∃ p xs i v, x = .ref p ∧ y = .int i ∧ SqT K H p xs ∧ atI xs i = some v ∧ Q v H
def rIxS : R2 := fun x y H Q => ∃ z i c, x = .str z ∧ y = .int i ∧ z.length ≤ sizeLine ∧ atI z.cps.toList i = some c ∧ Q (.str ⟨#[c]⟩) H
theorem ix_list : IxR X (rIxL X.K) := by
  intro value slice pins s σ H x y v u Q I rx ry h hs
  obtain ⟨p, xs, i, z, rfl, rfl, hq, he, q⟩ := h
  cases rx
  obtain ⟨t, rfl⟩ := ry
  obtain ⟨its, r, pl, hz⟩ := I.list hq
  obtain ⟨j, h1, h2, h3, h4, h5⟩ := atI_get he
  obtain ⟨w, ew, rw'⟩ := r.get h2
  have hl := r.length
  have hn := line63
  have fin : EP X pins σ Q w s := ⟨z, H, I, rw', q⟩
  by_cases h0 : 0 ≤ i
  · have hj : i.toNat = j := by
      rw [seqIndex_of h0 h5] at h1
      exact Option.some.inj h1
    exact item_listR pl.isList h0 (by omega) (by rw [hj]; simpa using ew) fin hs
  · have hj : (i + (its.toArray.size : Int)).toNat = j := by
      rw [seqIndex_neg (by omega) h4] at h1
      rw [List.size_toArray, ← hl]
      exact Option.some.inj h1
    exact subscriptTail_builtinR (x := w) pl.isList.typeIs slot_list_getitem.lookup
      (wpAny_getItem_list_neg (Q := fun r s' => r = w ∧ EP X pins σ Q r s') pl.isList (by omega) (by rw [List.size_toArray] <;> omega) (by omega) (by rw [hj]; simpa using ew) ⟨rfl, fin⟩) hs
theorem ix_tup : IxR X (rIxT X.K) := by
  intro value slice pins s σ H x y v u Q I rx ry h hs
  obtain ⟨p, xs, i, z, rfl, rfl, hq, he, q⟩ := h
  cases rx
  obtain ⟨t, rfl⟩ := ry
  obtain ⟨its, r, pl, hz⟩ := I.tuple hq
  obtain ⟨j, h1, h2, h3, h4, h5⟩ := atI_get he
  obtain ⟨w, ew, rw'⟩ := r.get h2
  have hl := r.length
  have hn := line63
  have fin : EP X pins σ Q w s := ⟨z, H, I, rw', q⟩
  exact subscriptTail_builtinR (x := w) pl.typeIs slot_tuple_getitem.lookup
    (getItem_tuple (j := j) (Q := fun r s' => r = w ∧ EP X pins σ Q r s') pl (by omega) (by omega) (by rw [List.size_toArray, ← hl]; exact h1) (by simpa using ew) ⟨rfl, fin⟩) hs
theorem ix_str : IxR X rIxS := by
  intro value slice pins s σ H x y v u Q I rx ry h hs
  obtain ⟨z, i, c, rfl, rfl, hz, he, q⟩ := h
  obtain ⟨t, rfl⟩ := rx
  obtain ⟨t', rfl⟩ := ry
  obtain ⟨j, h1, h2, h3, h4, h5⟩ := atI_get he
  have hl : z.cps.toList.length = z.length := by simp [Str.length]
  rw [hl] at h1 h4 h5
  have hn := line63
  exact tail_any (typeIs_str s z t) slot_str_getitem.lookup (getItem_str (c := c) (by
    have e1 : decide (i < -(2 ^ 63 : Int)) = false := decide_eq_false (by omega)
    have e2 : decide (i ≥ 2 ^ 63) = false := decide_eq_false (by omega)
    rw [e1, e2, Bool.or_false]) (by rw [h1]; simpa using h2) ⟨.str ⟨#[c]⟩, H, I.tok _, ⟨_, rfl⟩, q⟩) hs
/-! ### xs[i] = v, any sign -/
theorem mapSeq_set (its : List Value) (n j : Nat) (u : Value) : Obj.mapSeq (·.setIfInBounds j u) { cls := .type "list", data := .seq its.toArray n } = { cls := .type "list", data := .seq (its.set j u).toArray n } := by
  simp [Obj.mapSeq]
theorem Inv.lst {pins : List (Addr × Obj)} {σ : St} {H : Hp} {s : Shared} {p : Addr} {xs : List V} (I : Inv X pins σ H s) (h : H p = some (.lst xs)) :
    ∃ (its : List Value) (n : Nat), Vals xs its ∧ s.heap.get? p = some { cls := .type "list", data := .seq its.toArray n } ∧ xs.length ≤ sizeLine := by
  obtain ⟨z, its, n, r, e⟩ := I.hok p _ h
  exact ⟨its, n, r, e, z⟩
theorem Inv.lstUpd {pins : List (Addr × Obj)} {σ : St} {H : Hp} {s : Shared} {p : Addr} {xs ys : List V} {its its' : List Value} {n n' : Nat} {f : Obj → Obj} (I : Inv X pins σ H s) (h : H p = some (.lst xs))
    (ho : s.heap.get? p = some { cls := .type "list", data := .seq its.toArray n }) (hf : f { cls := .type "list", data := .seq its.toArray n } = { cls := .type "list", data := .seq its'.toArray n' }) (r : Vals ys its') (hz : ys.length ≤ sizeLine) (t : Nat) :
    Inv X pins σ (upd H p (.lst ys)) { s with heap := s.heap.update p f, toks := t } := by
  have e : (s.heap.update p f).get? p = some { cls := .type "list", data := .seq its'.toArray n' } := by
    rw [Heap.get?_update_self f ho (by rw [hf] <;> rfl), hf]
  refine I.write (x := p) (e := p) (by rw [h]; trivial) (.inl rfl) (fun b u hb q => (Heap.get?_update_other _ _ (Ne.symm hb)).trans q) ⟨_, e⟩ ?_
  exact ⟨hz, its', n', r, e⟩
def rSetL : V → V → V → Hp → (Hp → Prop) → Prop := fun o i v H Q => ∃ p xs k j, o = .ref p ∧ i = .int k ∧ H p = some (.lst xs) ∧ ixN xs.length k = some j ∧ Q (upd H p (.lst (xs.set j v)))
theorem set_list : PSet X rSetL := by
  intro pins s σ H o i v ov iv u Q I ro ri rv h
  obtain ⟨p, xs, k, j, rfl, rfl, hp, hj, q⟩ := h
  cases ro
  obtain ⟨t, rfl⟩ := ri
  obtain ⟨its, n, r, ho, hz⟩ := I.lst hp
  obtain ⟨h1, h2, h3, h4⟩ := ixN_seq hj
  have hl := r.length
  have hn := line63
  have I' : Inv X pins σ (upd H p (.lst (xs.set j v))) { s with heap := s.heap.update p (Obj.mapSeq (·.setIfInBounds j u)) } :=
    I.lstUpd hp ho (mapSeq_set its n j u) (r.set rv j) (by rw [List.length_set]; exact hz) s.toks
  by_cases h0 : 0 ≤ k
  · have hk : k.toNat = j := by
      rw [seqIndex_of h0 h4] at h1
      exact Option.some.inj h1
    exact PySem.W.ki_setAt ho h0 (by omega) (by rw [List.size_toArray, ← hl]; exact h4) (by rw [hk]; exact ⟨_, I', q⟩)
  · have hk : (k + (its.toArray.size : Int)).toNat = j := by
      rw [seqIndex_neg (by omega) h3] at h1
      rw [List.size_toArray, ← hl]
      exact Option.some.inj h1
    exact PySem.W.ki_setBack ho (by omega) (by rw [List.size_toArray, ← hl]; exact h3) (by omega) (by rw [hk]; exact ⟨_, I', q⟩)

/-! ### slices -/
theorem slice_bounds (lo hi : Option Int) (n : Nat) : (sliceBounds lo hi none n).1 = ((HT.sIx n 0 lo : Nat) : Int) ∧ (sliceBounds lo hi none n).2.1 = ((HT.sIx n n hi : Nat) : Int) ∧ (sliceBounds lo hi none n).2.2 = 1 := by
  refine ⟨?_, ?_, rfl⟩
  · cases lo with
    | none => simp [sliceBounds, HT.sIx]
    | some i =>
      simp only [sliceBounds, HT.sIx, Option.getD_none, show (1 : Int) > 0 by decide, if_true]
      by_cases h : i < 0
      · simp only [h, if_true] <;> omega
      · simp only [h, if_false] <;> omega
  · cases hi with
    | none => simp [sliceBounds, HT.sIx]
    | some i =>
      simp only [sliceBounds, HT.sIx, Option.getD_none, show (1 : Int) > 0 by decide, if_true]
      by_cases h : i < 0
      · simp only [h, if_true] <;> omega
      · simp only [h, if_false] <;> omega
theorem slicePick_cut (its : List Value) (lo hi : Option Int) : slicePick its.toArray lo hi none = ((its.drop (HT.sIx its.length 0 lo)).take (HT.sIx its.length its.length hi - HT.sIx its.length 0 lo)).toArray := by
  obtain ⟨h1, h2, h3⟩ := slice_bounds lo hi its.toArray.size
  unfold slicePick
  rw [h1, h2, h3]
  simp only [sliceRange_one, pick_run, List.size_toArray] <;> rfl
def rSlL (K : PySem.W.Frag) : V → Option Int → Option Int → Hp → VK → Prop := fun x lo hi H Q => ∃ a xs, x = .ref a ∧ SqL K H a xs ∧ ∀ p, H p = none → Q (.ref p) (upd H p (.lst (cutV xs lo hi)))
theorem sl_list : SlR X (rSlL X.K) := by
  intro pins s σ H x v vl vu lo hi sl Q I rx hs pl pu h
  obtain ⟨a, xs, rfl, hx, q⟩ := h
  cases rx
  obtain ⟨its, r, ht, hz⟩ := I.list hx
  have hlen := r.length
  refine ⟨"list", _, slot_list_getitem.lookup, ht.isList.typeIs, ?_⟩
  refine wpAny_getItem_list_slice ht.isList hs pl pu .none (by simp) ?_ (by rw [List.size_toArray] <;> omega)
  rw [slicePick_cut, ← hlen]
  refine ⟨.ref s.heap.objs.size, _, I.laid (t' := s.toks) (o := .lst (cutV xs lo hi)) (fun b ob q => Heap.get?_push_of_some _ q) (Nat.le_refl _) ?_, rfl, q _ (I.hok.fresh (Nat.le_refl _))⟩
  exact ⟨Nat.le_trans (cutV_length xs lo hi) hz, _, 0, (r.drop (HT.sIx xs.length 0 lo)).take (HT.sIx xs.length xs.length hi - HT.sIx xs.length 0 lo), Heap.get?_push_size _ rfl⟩

/-! ### in, not in: flat items -/
theorem op_notIn_str : OpR X (compareOp .NotIn) (fun x y H Q => ∃ i j, x = .str i ∧ y = .str j ∧ Q (.bl (!(!(Builtin.Str.occurrences j i 0 j.length 1).isEmpty))) H) := by
  intro pins s σ H x y v u Q I rx ry h
  obtain ⟨i, j, rfl, rfl, q⟩ := h
  obtain ⟨t, rfl⟩ := rx
  obtain ⟨t', rfl⟩ := ry
  exact notIn_str ⟨.bl _, H, I, rfl, q⟩

/-! ### len, list(x), tuple(x) of any list or tuple that is read -/
theorem call_len_seq : CallR X (.builtin "len") (fun xs H Q => ∃ p ys, xs = [.ref p] ∧ (SqL X.K H p ys ∨ SqT X.K H p ys) ∧ Q (.int ys.length) H) := by
  intro pins s σ H xs us Q I r h
  obtain ⟨p, ys, rfl, hq, q⟩ := h
  obtain ⟨u, rfl, rx⟩ := vals1 r
  cases rx
  have hn := line63
  rcases hq with hq | hq
  · obtain ⟨its, r', pl, hz⟩ := I.list hq
    have hlen := r'.length
    exact Calls.call_len_list pl.isList (by simp only [List.size_toArray] <;> omega) ⟨.int ys.length, H, I.tok _, ⟨s.toks + 1, by rw [List.size_toArray, hlen]⟩, q⟩
  · obtain ⟨its, r', pl, hz⟩ := I.tuple hq
    have hlen := r'.length
    exact len_tuple pl (by simp only [List.size_toArray] <;> omega) ⟨.int ys.length, H, I.tok _, ⟨s.toks + 1, by rw [List.size_toArray, hlen]⟩, q⟩
theorem call_len_str : CallR X (.builtin "len") (fun xs H Q => ∃ z, xs = [.str z] ∧ z.length ≤ sizeLine ∧ Q (.int z.length) H) := by
  intro pins s σ H xs us Q I r h
  obtain ⟨z, rfl, hz, q⟩ := h
  obtain ⟨u, rfl, t, rfl⟩ := vals1 r
  have hn := line63
  exact len_str (by omega) ⟨.int z.length, H, I.tok _, ⟨_, rfl⟩, q⟩
theorem CallR.or {f : Value} {r r' : List V → Hp → VK → Prop} (h : CallR X f r) (h' : CallR X f r') : CallR X f (fun xs H Q => r xs H Q ∨ r' xs H Q) := by
  intro pins s σ H xs us Q I rs q
  rcases q with q | q
  · exact h pins s σ H xs us Q I rs q
  · exact h' pins s σ H xs us Q I rs q
theorem call_list_of : CallR X (.type "list") (fun xs H Q => ∃ p ys, xs = [.ref p] ∧ (SqL X.K H p ys ∨ SqT X.K H p ys) ∧ ∀ l, H l = none → Q (.ref l) (upd H l (.lst ys))) := by
  intro pins s σ H xs us Q I r h
  obtain ⟨p, ys, rfl, hq, q⟩ := h
  obtain ⟨u, rfl, rx⟩ := vals1 r
  cases rx
  have fin : ∀ (its : List Value), Vals ys its → ys.length ≤ sizeLine → ∀ (h' : Heap) (c' : Nat), (∀ b o', s.heap.get? b = some o' → h'.get? b = some o') →
      h'.get? s.heap.objs.size = some { cls := .type "list", dict := none, data := .seq its.toArray c', slots := #[] } → EP X pins σ Q (.ref s.heap.objs.size) { s with heap := h' } := fun its r' hz h' c' kp e =>
    ⟨.ref s.heap.objs.size, _, I.laid (t' := s.toks) kp (Nat.le_refl _) (show ObjOk X.prog X.w _ h' _ (.lst ys) from ⟨hz, its, c', r', e⟩), rfl, q _ (I.hok.fresh (Nat.le_refl _))⟩
  rcases hq with hq | hq
  · obtain ⟨its, r', pl, hz⟩ := I.list hq
    have hlen := r'.length
    obtain ⟨o, ho, hc, n, hd⟩ := pl.isList
    exact call_list_seq p (.inl rfl) ho hc hd (fun h' c' kp e => fin its r' hz h' c' kp e) (by simp only [List.size_toArray] <;> omega)
  · obtain ⟨its, r', pl, hz⟩ := I.tuple hq
    have hlen := r'.length
    obtain ⟨o, ho, hc, n, hd⟩ := pl
    exact call_list_seq p (.inr rfl) ho hc hd (fun h' c' kp e => fin its r' hz h' c' kp e) (by simp only [List.size_toArray] <;> omega)
theorem call_tuple_of : CallR X (.type "tuple") (fun xs H Q => ∃ p ys, xs = [.ref p] ∧ ((SqL X.K H p ys ∧ ∀ l, H l = none → Q (.ref l) (upd H l (.tup ys))) ∨ (SqT X.K H p ys ∧ Q (.ref p) H))) := by
  intro pins s σ H xs us Q I r h
  obtain ⟨p, ys, rfl, h⟩ := h
  obtain ⟨u, rfl, rx⟩ := vals1 r
  cases rx
  rcases h with ⟨hq, q⟩ | ⟨hq, q⟩
  · obtain ⟨its, r', pl, hz⟩ := I.list hq
    have hlen := r'.length
    refine call_tuple_list pl.isList (fun h' kp => ?_) (by simp only [List.size_toArray] <;> omega)
    have I1 : Inv X pins σ H { s with heap := h' } := I.kept (t' := s.toks) kp
    have I2 : Inv X pins σ (upd H h'.objs.size (.tup ys)) { s with heap := h'.push { cls := .type "tuple", data := .seq its.toArray } } :=
      I1.laid (t' := s.toks) (fun b o e => Heap.get?_push_of_some _ e) (Nat.le_refl _) (show ObjOk X.prog X.w _ _ _ (.tup ys) from ⟨hz, its, r', IsTup.new _ _⟩)
    exact ⟨.ref h'.objs.size, _, I2, rfl, q _ (I1.hok.fresh (Nat.le_refl _))⟩
  · obtain ⟨its, r', pl, hz⟩ := I.tuple hq
    exact call_tuple_same pl ⟨.ref p, H, I, rfl, q⟩

/-! ### the call of a builtin's method: o.m(..) -/
def tyV (K : PySem.W.Frag) (T : String) (x : V) (H : Hp) : Prop := match x with
  | .str _ => T = "str"
  | .int _ => T = "int"
  | .ref p => (T = "list" ∧ ∃ xs, SqL K H p xs) ∨ (T = "tuple" ∧ ∃ o, K.lookup p = some o ∧ o.cls = .type "tuple" ∧ o.dict = none) ∨
      (T = "dict" ∧ ((∃ kvs, H p = some (.dK kvs)) ∨ ∃ kvs, H p = some (.dT kvs))) ∨ (T = "set" ∧ ∃ S n, H p = some (.set S n))
  | _ => False
theorem tyV_is {pins : List (Addr × Obj)} {σ : St} {H : Hp} {s : Shared} {T : String} {x : V} {v : Value} (I : Inv X pins σ H s) (r : RelV x v) (ty : tyV X.K T x H) :
    s.TypeIs v T ∧ ∀ a, v = .ref a → ∃ ob, s.heap.get? a = some ob ∧ ob.dict = none := by
  cases x with
  | str z =>
    obtain ⟨t, rfl⟩ := r
    cases (show T = "str" from ty)
    exact ⟨typeIs_str s z t, fun _ e => nomatch e⟩
  | int i =>
    obtain ⟨t, rfl⟩ := r
    cases (show T = "int" from ty)
    exact ⟨typeIs_int s i t, fun _ e => nomatch e⟩
  | ref p =>
    cases r
    rcases ty with ⟨rfl, xs, hq⟩ | ⟨rfl, o, hk, hc, hd⟩ | ⟨rfl, hk⟩ | ⟨rfl, S, n, hk⟩
    · obtain ⟨its, _, pl, _⟩ := I.list hq
      refine ⟨pl.isList.typeIs, fun a e => ?_⟩
      cases e
      obtain ⟨o, n, e, c, hd, _⟩ := pl
      exact ⟨o, e, hd⟩
    · refine ⟨⟨o, I.kIn p o hk, hc⟩, fun a e => ?_⟩
      cases e
      exact ⟨o, I.kIn _ o hk, hd⟩
    · have z : ∃ o, s.heap.get? p = some o ∧ o.ExactDict := by
        rcases hk with ⟨kvs, hk⟩ | ⟨kvs, hk⟩
        · obtain ⟨_, _, _, _, o, _, _, e, ex, _⟩ := I.hok p _ hk
          exact ⟨o, e, ex⟩
        · obtain ⟨_, _, _, _, o, _, _, e, ex, _⟩ := I.hok p _ hk
          exact ⟨o, e, ex⟩
      obtain ⟨o, e, ex⟩ := z
      refine ⟨⟨o, e, ex.1⟩, fun a e2 => ?_⟩
      cases e2
      exact ⟨o, e, ex.2.1⟩
    · obtain ⟨o, _, _, _, e, ex, _⟩ := I.hok p _ hk
      refine ⟨⟨o, e, ex.1⟩, fun a e2 => ?_⟩
      cases e2
      exact ⟨o, e, ex.2.1⟩
  | _ => exact False.elim ty
def tBM (K : PySem.W.Frag) (T : String) (r : V → List V → Hp → VK → Prop) (to : TE) (t : TA) : TE := fun σ H Q => to σ H fun x H1 => tyV K T x H1 ∧ t σ H1 fun xs H2 => r x xs H2 Q
variable {o e : Expr} {es : List Expr} {to : TE} {t : TA} {name : Str} {apos cpos : Pos} {T id : String} {r : V → List V → Hp → VK → Prop}
theorem pe_bm (pa : PlainAttrs T) (slot : Slot T name id) (hty : typeOf (.builtin id) = pure (.type "method_descriptor")) (hm : MtR X id r) (ho : PE X o to) (ha : PA X (e :: es) t)
    (hbase : attributeBase o name X.env (eval o X.env) = eval o X.env := by rfl)
    (hfew : ((backTo cpos (starEach (e :: es) X.env)).all (fun x => !x.1) && (backToKw cpos (keywordEach [] X.env)).all (fun x => x.1.isSome)
      && decide ((e :: es).length + ([] : List Keyword).length + (if ([] : List Keyword).isEmpty then 0 else 1) < 30)) = true := by rfl)
    (hline : (apos.endLine == cpos.line) = true := by rfl) (hs : starEach (e :: es) X.env = (false, eval e X.env) :: starEach es X.env := by rfl) (hplain : (backTo cpos (starEach es X.env)).any (·.1) = false := by rfl) :
    PE X (.Call (.Attribute o name apos) (e :: es) [] cpos) (tBM X.K T r to t) := by
  intro pins s σ H Q I h
  refine wpAny_Call_method_late hbase hfew hline rfl (thn (ho pins s σ H _ I h) fun v s1 ⟨x, H1, I1, r1, ty, q1⟩ => ?_)
  obtain ⟨h1, h2⟩ := tyV_is I1 r1 ty
  refine ⟨T, id, pa, slot, hty, h1, h2, ?_⟩
  have hA := ha cpos pins s1 σ H1 _ I1 q1
  rw [hs] at hA ⊢
  refine Calls.callWith_builtin (by show (false || (backTo cpos (starEach es X.env)).any (·.1)) = false; rw [hplain] <;> rfl) (Calls.evalArgs_plain ?_)
  exact thn hA fun us s2 ⟨vs, H2, I2, r2, q2⟩ => hm pins s2 σ H2 x vs v us Q I2 r1 r2 q2
/- xs.append(e), list.index on a module's tuple .. are MtR facts of 06m -/
end
end L2

namespace L2
open PySem PySem.Spec PyProof.Rows

def MtM (X : Cx) (id : String) (r : V → List V → Hp → VK → Prop) : Prop :=
  ∀ (pins : List (Addr × Obj)) (s : Shared) (σ : St) (H : Hp) (x : V) (xs : List V) (v : Value) (us : List Value) (Q : VK), Inv X pins σ H s → RelV x v → Vals xs us → r x xs H Q →
    wpAny (model X.prog X.w) X.A (call (.builtin id) (v :: us)) (EP X pins σ Q) X.xe s

/-! ### lists of values -/
theorem Vals.one : ∀ {x : V} {us : List Value}, Vals [x] us → ∃ u, us = [u] ∧ RelV x u
  | _, _, .cons r .nil => ⟨_, rfl, r⟩
section
variable {X : Cx} {pins : List (Addr × Obj)} {σ : St} {H : Hp} {s : Shared} {l b : Addr} {xs ys zs : List V}

/-! ### the two steps: a tracked list is rewritten, a new list is laid -/
theorem Inv.lset {its its' : List Value} {n : Nat} {f : Array Value → Array Value} {t' : Nat} (I : Inv X pins σ H s) (hH : H l = some (.lst xs))
    (e : s.heap.get? l = some { cls := .type "list", data := .seq its.toArray n }) (hf : f its.toArray = its'.toArray) (hv : Vals ys its') (hz : ys.length ≤ sizeLine) :
    Inv X pins σ (upd H l (.lst ys)) { s with heap := s.heap.update l (Obj.mapSeq f), toks := t' } := by
  have q := PySem.IsL.update e f
  rw [hf] at q
  refine I.write (x := l) (e := l) (by rw [hH]; exact trivial) (.inl rfl) (fun b' u hb hu => (Heap.get?_update_other s.heap (Obj.mapSeq f) (Ne.symm hb)).trans hu) ⟨_, q⟩ ?_
  exact ⟨hz, its', _, hv, q⟩
theorem Inv.lnew {its : List Value} {t' : Nat} (I : Inv X pins σ H s) (hv : Vals ys its) (hz : ys.length ≤ sizeLine) :
    Inv X pins σ (upd H s.heap.objs.size (.lst ys)) { s with heap := s.heap.push { cls := .type "list", data := .seq its.toArray }, toks := t' } :=
  I.laid (fun _ _ q => Heap.get?_push_of_some _ q) (Nat.le_refl _) ⟨hz, its, 0, hv, Heap.get?_push_size _ rfl⟩
theorem Inv.fresh (I : Inv X pins σ H s) : H s.heap.objs.size = none := I.hok.fresh (Nat.le_refl _)
theorem Inv.lstM (I : Inv X pins σ H s) (hH : H l = some (.lst xs)) : xs.length ≤ sizeLine ∧ ∃ (its : List Value) (n : Nat), Vals xs its ∧ xs.length = its.length ∧ s.heap.get? l = some { cls := .type "list", data := .seq its.toArray n } := by
  obtain ⟨z, its, n, r, e⟩ := I.hok l _ hH
  exact ⟨z, its, n, r, r.length, e⟩

end

section
variable {X : Cx}

/-! ### methods -/
def rAppend : V → List V → Hp → VK → Prop := fun x vs H Q => ∃ l xs y, x = .ref l ∧ vs = [y] ∧ H l = some (.lst xs) ∧ xs.length < sizeLine ∧ Q .non (upd H l (.lst (xs ++ [y])))
theorem mt_append : MtM X "list.append" rAppend := by
  intro pins s σ H x vs v us Q I rx rv h
  obtain ⟨l, xs, y, rfl, rfl, hH, hz, q⟩ := h
  cases rx
  obtain ⟨u, rfl, ru⟩ := rv.one
  obtain ⟨z, its, n, r, hl, e⟩ := I.lstM hH
  refine call_meets F.slot_list_append ⟨_, e, rfl⟩ F.entry_list_append (F.args_list_append_2 _ _) (PySem.list_append l its.toArray n u (by rw [List.size_toArray]; omega)) ⟨e, ?_⟩
  refine ⟨.non, _, I.lset (its' := its ++ [u]) hH e (by simp) (r.append (.cons ru .nil)) ?_, rfl, q⟩
  rw [List.length_append, List.length_singleton]
  omega

/-! ### list + list, list += list, list * int -/
def rCat : R2 := fun x y H Q => ∃ l b xs zs, x = .ref l ∧ y = .ref b ∧ H l = some (.lst xs) ∧ H b = some (.lst zs) ∧ xs.length + zs.length ≤ sizeLine ∧ ∀ p, H p = none → Q (.ref p) (upd H p (.lst (xs ++ zs)))
theorem op_cat : OpR X (binaryOp .Add) rCat := by
  intro pins s σ H x y v u Q I rx ry h
  obtain ⟨l, b, xs, zs, rfl, rfl, hH, hB, hz, q⟩ := h
  cases rx
  cases ry
  obtain ⟨z, its, n, r, hl, e⟩ := I.lstM hH
  obtain ⟨z2, its2, n2, r2, hl2, e2⟩ := I.lstM hB
  refine PySem.P.add_list e e2 ?_ (by rw [List.size_toArray, List.size_toArray]; omega)
  have ea : its.toArray ++ its2.toArray = (its ++ its2).toArray := by simp
  rw [ea]
  exact ⟨.ref _, _, I.lnew (t' := s.toks) (r.append r2) (by rw [List.length_append]; omega), rfl, q _ I.fresh⟩
/-! ### del xs[i] -/
end

/-! ### xs[a:b] = ys -/
section
variable {prog : Program} {w : World} {A : Around} {E : Value → Shared → Prop} {s : Shared}
end

section
variable {X : Cx}
end
end L2

namespace Att
open PySem PySem.W PySem.Calls PyProof.Rows

/-! ### the script -/
theorem ints_of_wellAll {P : Params} {h : Heap} : ∀ (ns : List Int) (vs : List Value), WellAll P h vs (ns.map WData.int) → IntsAre vs ns := by
  intro ns
  induction ns with
  | nil =>
    intro vs w
    rw [List.map_nil] at w
    cases w
    exact .nil
  | cons n ns ih =>
    intro vs w
    rw [List.map_cons] at w
    cases w with
    | cons a b =>
      cases a
      exact .cons _ _ (ih _ b)

theorem script_of {l : OpenLaw} {n : Nat} (hn : l.most = some n) {P : Params} {h : Heap} {args : List WData} {vals : List Value}
    (hpre : l.row.toRowW.claim.pre args = true) (hwl : WellAll P h vals args) :
    ∃ a vs ns, vals = [Value.ref a] ∧ args = [WData.list (ns.map WData.int)] ∧ h.get? a = some { cls := .type "list", data := .seq vs.toArray } ∧ IntsAre vs ns ∧ ns.length ≤ n := by
  have hsh : WShape.hasAll [] args [.list .int] = true := (pre_splitW hpre).1
  have hc : l.pre.holds [] { args := args } = true := (pre_splitW hpre).2
  obtain ⟨d, r, rfl, h1, h2⟩ := hasAllW_cons hsh
  obtain rfl := hasAllW_nil h2
  obtain ⟨xs, rfl, h3⟩ := hasW_list h1
  obtain ⟨ns, rfl⟩ := items_int h3
  have hlen : ns.length ≤ n := by
    unfold OpenLaw.pre at hc
    have h4 : (WTm.not (.lt (.lit (.int (n : Int))) (.len (.arg 0)))).holds [] { args := [.list (ns.map .int)] } = true := by
      have h4 := (holds_andW hc).1
      rw [hn] at h4
      exact h4
    have h5 := condW_of h4 (w_not (w_lt w_lit (w_len_list (w_arg rfl))))
    rw [List.length_map] at h5
    refine Nat.le_of_not_lt fun q => ?_
    have q' : (n : Int) < ((ns.length : Nat) : Int) := by omega
    first
      | (rw [decide_eq_true q'] at h5; exact absurd h5 (by decide))
      | (simp at h5; omega)
  cases hwl with
  | cons w1 w2 =>
    cases w2
    cases w1 with
    | list ho hall => exact ⟨_, _, ns, rfl, rfl, ho, ints_of_wellAll ns _ hall, hlen⟩

theorem post_true (l : OpenLaw) (args : List WData) : l.row.toRowW.claim.post args (.bool true) args = true :=
  postW_of (r := l.row.toRowW) (X := (true == true))
    (show WShape.has [] (.bool true) .bool = true by first | rfl | decide | simp [WShape.has, WShape.arms, WShape.armsAll])
    (show (WTm.eq .res (.lit (.bool true))).value [] { args := args, res := some (.bool true), after := args } = some (.bool (true == true)) from w_eq_bool (w_res rfl) w_lit) rfl

/-! ### the attachment: holds_open's last premise (the goal 'hc' behind k_head) from a wpAny of the law's body -/
theorem attach_call {l : OpenLaw} {n : Nat} {q : Program} {loose : List Str} {XP : (Str → Option Value) → Heap → Prop} {YP : World → Heap → Prop} {d : DefRec}
    (hn : l.most = some n) (hdf : d.params.defaults = [])
    (call : ∀ (w : World) (s₀ s₁ : Shared) (mg mb : Str → Option Value) (fa : Addr) (o : Obj) (pm cd doc : Value) (a : Addr) (vs : List Value) (ns : List Int),
      Ground q loose [] XP w s₀ mg mb s₁.heap → YP w s₁.heap →
      s₁.heap.get? fa = some o → o.data = .func (docDef d.name d.params d.body d.scope pm cd doc) → s₁.heap.CodeRec cd d.name → mg d.name = some (.ref fa) →
      s₁.heap.get? a = some { cls := .type "list", data := .seq vs.toArray } → IntsAre vs ns → ns.length ≤ n → s₁.gens = #[] →
      codeAny (model l.prog w) callerA (.call (.ref fa) ⟨[.ref a], []⟩) (fun r s' => r = .ok (.ret (.bool true)) ∧ OldK s₁.heap s'.heap ∧ s'.os = s₁.os ∧ AllBare s'.gens) s₁) :
    WalkO q loose XP YP l.row.toRowW d [] (fun f vs => PySem.call f vs) := by
  intro w s₀ s₁ mg mb G Y fa o pm cd doc dV kV ho hd hcd hD hmg hg args vals as hpre hlay hrd hwl hlo
  obtain rfl : dV = .none := Dflts.none hD hdf
  obtain rfl : kV = .none := Dflts.noKw hD
  obtain ⟨a, vs, ns, rfl, rfl, hobj, hints, hlen⟩ := script_of hn hpre hwl
  refine enter_call (codeAny_mono (call w s₀ s₁ mg mb fa o pm cd doc a vs ns G Y ho (fd_plain hd) hcd hmg hobj hints hlen hg) fun r s' hq => ?_)
  obtain ⟨rfl, h2, h3, h4⟩ := hq
  exact ⟨.inl ⟨.bool true, .bool true, [], rfl, fun _ => rfl, .bool true, post_true l _, fun _ => ⟨List.Pairwise.nil, fun _ hm => (nomatch hm)⟩⟩, h2, h3, h4⟩

/-! ### rules over ANY heap (no ledger) from facts about the written part K: the library's own take a ledger (News) for what they write -/
section
variable {prog : Program} {w : World} {A : Around} {E : Value → Shared → Prop} {s : Shared} {K : Frag}

/-! the whole heap as the ledger: makes every rule that writes through a ledger a rule over any heap -/
def ledger (h : Heap) (L d : Addr) : List (Addr × Obj) := (List.range h.objs.size).filterMap fun a => if a = L ∨ a = d then none else (h.get? a).map fun o => (a, o)
end
end Att

namespace L2
open PySem PySem.Spec PyProof.Rows

theorem vals_ints : ∀ {vs : List Value} {ns : List Int}, IntsAre vs ns → Vals (ns.map V.int) vs
  | _, _, .nil => .nil
  | _, _, .cons n t h => .cons ⟨t, rfl⟩ (vals_ints h)

def Only (H : Hp) : Prop := ∀ b, H b = none ∨ ∃ o xs, H b = some (.frz o (.lst xs))

theorem law_call {P : Program} {w : World} {K : PySem.W.Frag} {mg mb : Str → Option Value} {CX : CXT} {k : Nat} {fa a : Addr} {fd : FuncData} {x : Str} {sp : Sp} {s₁ : Shared} {vs : List Value} {ns : List Int}
    (KX : K.In s₁.heap) (hns : s₁.heap.Ns mainGlobals mg) (hb : s₁.heap.Ns builtinsNs mb) (hbb : ∀ x : Str, x ≠ "__name__" → mb x = bootBuiltins x) (hlim : s₁.heap.NoLimit) (hg : s₁.gens = #[])
    (ha : s₁.heap.get? a = some { cls := .type "list", data := .seq vs.toArray }) (hi : IntsAre vs ns) (hl : ns.length ≤ sizeLine) (hr : Room k callerA)
    (F : ∀ base : Heap, K.In base → base.Ns mainGlobals mg → FnOk P w K mg base CX k fa fd [x] sp) (hbind : ∀ (s : Shared) (u : Value), BindsTo s fd ⟨[u], []⟩ [(x, u)])
    (hsp : ∀ H : Hp, Only H → SqL K H a (ns.map V.int) → sp [.ref a] H (fun v _ => v = .bl true) fun _ _ _ => False)
    (hCX : ∀ H e s', CX [] H s₁ (fun _ _ _ => False) e s' → False) :
    codeAny (model P w) callerA (.call (.ref fa) ⟨[.ref a], []⟩) (fun r s' => r = .ok (.ret (.bool true)) ∧ OldK s₁.heap s'.heap ∧ s'.os = s₁.os ∧ AllBare s'.gens) s₁ := by
  have rv := vals_ints hi
  have lenV := hi.length
  -- from an abstract heap in which nothing but the script may be tracked
  have core : ∀ H : Hp, Only H → SqL K H a (ns.map V.int) → HOk P w H s₁.heap → (∀ b, H b ≠ none → b = a) → (H a ≠ none → K.lookup a = none) →
      codeAny (model P w) callerA (.call (.ref fa) ⟨[.ref a], []⟩) (fun r s' => r = .ok (.ret (.bool true)) ∧ OldK s₁.heap s'.heap ∧ s'.os = s₁.os ∧ AllBare s'.gens) s₁ := by
    intro H hO hS hok hA hK
    have base_of : ∀ {b : Addr} {o : Obj}, s₁.heap.get? b = some o → H b = none → (hidT s₁.heap H).get? b = some o := fun e n => hidT_get e n
    have noA : ∀ {b : Addr} {o : Obj} {es : Array DictEntry} {ep : Nat}, s₁.heap.get? b = some o → o.data = .dict es ep → H b = none := fun {b o es ep} e d => by
      cases q : H b with
      | none => rfl
      | some u =>
        have e' : b = a := hA b (by rw [q]; simp)
        subst e'
        rw [ha] at e; cases e
        have d' : Data.seq vs.toArray _ = Data.dict es ep := d
        cases d'
    have nsK : ∀ {b : Addr} {m : Str → Option Value}, s₁.heap.Ns b m → (hidT s₁.heap H).Ns b m := fun {b m} ⟨o, es, ep, e, d, r⟩ => ⟨o, es, ep, base_of e (noA e d), d, r⟩
    have hKb : K.In (hidT s₁.heap H) := fun b o e => base_of (KX b o e) (by
      cases q : H b with
      | none => rfl
      | some u =>
        have e' : b = a := hA b (by rw [q]; simp)
        subst e'
        rw [hK (by rw [q]; simp)] at e; cases e)
    have hM : Mod K mg (hidT s₁.heap H) := ⟨hKb, nsK hns, ⟨mb, nsK hb, hbb⟩, let ⟨mc, h1, h2⟩ := hlim; ⟨mc, nsK h1, h2⟩⟩
    have e0 : Env0 P w K mg (hidT s₁.heap H) callerA [] s₁ H := ⟨rfl, hM, fun b o e => of_hidT e, Nat.le_of_eq (hidT_size _ _), trivial, fun b hb => absurd (show b ∈ ([] : List Addr) from hb) (by simp), hok, .of_eq hg⟩
    refine codeAny_mono ((F _ hKb (nsK hns)).run callerA [] s₁ H ⟨[.ref a], []⟩ [.ref a] [.ref a] _ _ hr e0 (hbind s₁ (.ref a)) (.cons rfl .nil) (hsp H hO hS)) fun r s' h => ?_
    cases r with
    | error e => exact (hCX H e s' h).elim
    | ok fl =>
      cases fl with
      | next => exact False.elim h
      | brk => exact False.elim h
      | cont => exact False.elim h
      | ret u =>
        obtain ⟨v, H', os, bare, un, hok', r', q⟩ := h
        have q' : v = .bl true := q
        subst q'
        obtain rfl : u = Value.bool true := r'
        refine ⟨rfl, OldK.of_keep fun b o e => ?_, os, bare⟩
        cases q : H b with
        | none => exact un.keep b o e q (by intro z; exact absurd (show b ∈ ([] : List Addr) from z) (by simp)) (by simp)
        | some u =>
          rcases hO b with z | ⟨ob, xs, z⟩
          · rw [q] at z; cases z
          · have z2 := un.frzs b ob _ z
            obtain ⟨e1, _⟩ := hok b _ z
            obtain ⟨e2, _⟩ := hok' b _ z2
            rw [e] at e1; cases e1
            exact e2
  cases hk : K.lookup a with
  | some o =>
    -- the script is one of the module's own objects
    have e := KX a o hk
    rw [ha] at e
    cases e
    refine core (fun _ => none) (fun _ => .inl rfl) (.inr ⟨_, vs.toArray, _, hk, rfl, rfl, rfl, by rw [List.size_toArray, lenV]; exact hl, by simpa using rv⟩) (fun b u z => by have z' : (none : Option HO) = some u := z; cases z') (fun b z => absurd rfl z) fun z => absurd rfl z
  | none =>
    refine core (fun b => if b = a then some (.frz { cls := .type "list", data := .seq vs.toArray } (.lst (ns.map V.int))) else none) (fun b => ?_) (.inl (.inr ⟨{ cls := .type "list", data := .seq vs.toArray }, if_pos rfl⟩)) (fun b u z => ?_) (fun b z => ?_) fun _ => hk
    · by_cases hb : b = a
      · exact .inr ⟨_, _, if_pos hb⟩
      · exact .inl (if_neg hb)
    · by_cases hb : b = a
      · have z' := (if_pos hb).symm.trans z
        cases z'
        subst hb
        exact ⟨ha, by rw [List.length_map]; exact hl, vs, _, rv, ha⟩
      · have z' := (if_neg hb).symm.trans z
        cases z'
    · by_cases hb : b = a
      · exact hb
      · exact absurd (if_neg hb) z
end L2

namespace L2
open PySem PySem.Spec PyProof.Rows

abbrev KOf {K : PySem.W.Frag} {h : Heap} (_ : K.In h) : PySem.W.Frag := K

theorem walk_of {l : PySem.W.OpenLaw} {n k : Nat} {q : Program} {loose : List Str} {XP : (Str → Option Value) → Heap → Prop} {YP : World → Heap → Prop} {d : DefRec} {K : Params → PySem.W.Frag} {CX : World → CXT} {sp : World → Sp} {x : Str}
    (hn : l.most = some n) (hn2 : n ≤ sizeLine) (hdf : d.params.defaults = []) (hr : Room k callerA)
    (hY : ∀ (w : World) (h : Heap), YP w h → (K w.params).In h)
    (F : ∀ (w : World) (mg : Str → Option Value) (fa : Addr) (h : Heap), (K w.params).In h → h.Ns mainGlobals mg → mg d.name = some (.ref fa) →
      ∃ fd : FuncData, (∀ (s : Shared) (u : Value), BindsTo s fd ⟨[u], []⟩ [(x, u)]) ∧
        ∀ base : Heap, (K w.params).In base → base.Ns mainGlobals mg → FnOk l.prog w (K w.params) mg base (CX w) k fa fd [x] (sp w))
    (hsp : ∀ (w : World) (H : Hp) (a : Addr) (ns : List Int), ns.length ≤ n → Only H → SqL (K w.params) H a (ns.map V.int) → sp w [.ref a] H (fun v _ => v = .bl true) fun _ _ _ => False)
    (hCX : ∀ (w : World) (H : Hp) (s : Shared) (e : Value) (s' : Shared), CX w [] H s (fun _ _ _ => False) e s' → False) :
    PySem.W.WalkO q loose XP YP l.row.toRowW d [] (fun f vs => PySem.call f vs) := by
  refine Att.attach_call hn hdf fun w s₀ s₁ mg mb fa o pm cd doc a vs ns G Y ho hd hcd hmg hobj hints hlen hg => ?_
  have KX := hY w _ Y
  obtain ⟨fd, hb, hF⟩ := F w mg fa _ KX G.T.g hmg
  exact law_call KX G.T.g G.T.b G.T.builtins G.T.nolimit hg hobj hints (Nat.le_trans hlen hn2) hr hF hb (fun H hO hS => hsp w H a ns hlen hO hS) fun H e s' => hCX w H s₁ e s'
end L2

/- THE LAST THEOREM (shape; LID, My.* are yours):
   My.Adr: a structure of the addresses that your layer names (classes, functions); My.Txt K t: a structure (Prop) of the equations over K;
   My.txt_mk : {K} {implicit addresses ..} (e1 : nsIn K mainGlobals "law" = some (some (.ref f))) (e2 : K.lookup f = some ⟨oc, od, .func (fnOf "law" "law" params body scope dV kV doc pm an cdv ct), sl⟩) (e3 : codeIn K cdv "law" = true) .. : ∃ t, My.Txt K t

set_option maxRecDepth 100000 in
set_option maxHeartbeats 0 in
theorem PySem.Challenge.cw_LID_holds : PySem.Challenge.rw_LID.Holds := by
  w_on; o_law; k_head; (case hw => w_witness2)
  k_fill
  refine L2.walk_of (l := PySem.Challenge.rw_LID) (n := 63) (k := 40) (x := "script") (CX := fun w => ..) (sp := fun _ => My.sp_law) rfl (by decide) rfl ⟨rfl, by decide, by decide⟩ (fun w h Y => PySem.W.kIn_of Y) ?F ?S ?C
  case F =>
    intro w mg fa h KX G hmg
    have T : ∃ t, My.Txt (L2.KOf KX) t := by
      dsimp only [L2.KOf]                          -- K must stand as «<heap const> w.params» for k_is
      refine' My.txt_mk ?e1 ?e2 ?e3 ..
      (case e1 => PySem.W.k_is)                    -- in the order: a name -> its address -> its object -> its parts
      (case e2 => PySem.W.k_is)
      ..
    obtain ⟨t, T⟩ := T
    have e0 := hmg.symm.trans (PySem.W.mg_of KX G T.law)
    cases e0                                       -- fa is the law's own address
    exact ⟨_, fun s u => .of_eq rfl, fun base kb nb => My.law_fn T kb nb⟩     -- if «.of_eq rfl» comes too early: refine' ⟨_, ?b, fun base kb nb => My.law_fn T kb nb⟩; exact fun s u => .of_eq rfl
  case S => exact fun w H a ns hl hO hS => ..
  case C => exact ..
(the tactic k_is has no namespace: write k_is) -/

/-! SHORT WORDS over the layer: a def of the text, its body, what a loop and a test want. -/
namespace L2
open PySem PySem.Spec PyProof.Rows

/-! ### the text by places -/
def defArgs (s : Stmt) : Arguments := match s with
  | .FunctionDef _ a _ _ _ _ _ _ _ _ => a
  | _ => { posonlyargs := [], args := [], vararg := none, kwonlyargs := [], kw_defaults := [], kwarg := none, defaults := [] }
def defBody (s : Stmt) : List Stmt := match s with
  | .FunctionDef _ _ b _ _ _ _ _ _ _ => b
  | _ => []
def defScope (s : Stmt) : Scope := match s with
  | .FunctionDef _ _ _ _ _ _ sc _ _ _ => sc
  | _ => { kind := .function, names := [], isGenerator := false, isCoroutine := false }

/-! ### no exception leaves a def -/
abbrev CX0 : CXT := fun _ _ _ _ _ _ => False
abbrev E0 : XK := fun _ _ _ => False
theorem pass0 {X : Cx} : Passes CX0 X E0 := fun _ _ _ _ _ _ _ h => h.elim

/-! ### a def (or method) of the text as it stands behind the top -/
structure Fun (K : PySem.W.Frag) (x qual : Str) (st : Stmt) (f : Addr) (fd : FuncData) : Prop where
  ex : ∃ (oc : Value) (od : Option Addr) (kV doc pm : Value) (an : Option Addr) (cdv ct : Value) (osl : Array (Option Value)),
    fd = PySem.W.fnOf x qual (defArgs st) (defBody st) (defScope st) .none kV doc pm an cdv ct ∧ K.lookup f = some ⟨oc, od, .func fd, osl⟩ ∧ PySem.W.codeIn K cdv qual = true
  kp : PySem.W.keepIn K (.ref f) = true
section
variable {P : Program} {w : World} {K : PySem.W.Frag} {mg : Str → Option Value} {base : Heap}
theorem Fun.ok {x qual : Str} {st : Stmt} {f : Addr} {fd : FuncData} {N ps : List Str} {k : Nat} {sp : Sp} (F : Fun K x qual st f fd) (S : FnScope N ps (defScope st)) (len : ∀ vs H Q E, sp vs H Q E → vs.length = ps.length)
    (hbody : ∀ (cdv : Value) (A : Around) (outer : List Env) (s : Shared) (H : Hp) (vs : List V) (Q : VK) (E : XK), Room k (A.deeper (envOfC qual (defScope st) s.heap.objs.size f cdv)) → sp vs H Q E →
      ∃ t, PSs (cxOf CX0 P w K mg base N qual (defScope st) f cdv A outer s H E).nox (defBody st) t ∧ t { nx := fun _ H' => Q .non H', rt := Q } (start N vs) H) : FnOk P w K mg base CX0 (k + 1) f fd ps sp := by
  obtain ⟨oc, od, kV, doc, pm, an, cdv, ct, osl, rfl, lk, hcd⟩ := F.ex
  refine fn_of lk hcd S len fun A outer s H vs Q E hr hsp => ?_
  obtain ⟨t, h, q⟩ := hbody cdv A outer s H vs Q E hr hsp
  exact ⟨t, h.nox, q⟩
theorem Fun.binds {x qual : Str} {st : Stmt} {f : Addr} {fd : FuncData} {ps : List Str} (F : Fun K x qual st f fd)
    (h : ∀ (kV doc pm : Value) (an : Option Addr) (cdv ct : Value) (us : List Value), us.length = ps.length → bindArgs (PySem.W.fnOf x qual (defArgs st) (defBody st) (defScope st) .none kV doc pm an cdv ct) ⟨us, []⟩ = pure (ps.zip us)) : Binds K fd ps [] := by
  obtain ⟨oc, od, kV, doc, pm, an, cdv, ct, osl, rfl, lk, hcd⟩ := F.ex
  exact .all (h kV doc pm an cdv ct)
theorem fun_mk {x qual : Str} {st : Stmt} {f : Addr} {oc : Value} {od an : Option Addr} {osl : Array (Option Value)} {kV doc pm cdv ct : Value} (l : K.lookup f = some ⟨oc, od, .func (PySem.W.fnOf x qual (defArgs st) (defBody st) (defScope st) .none kV doc pm an cdv ct), osl⟩)
    (c : PySem.W.codeIn K cdv qual = true) (k : PySem.W.keepIn K (.ref f) = true) : Fun K x qual st f (PySem.W.fnOf x qual (defArgs st) (defBody st) (defScope st) .none kV doc pm an cdv ct) := ⟨⟨oc, od, kV, doc, pm, an, cdv, ct, osl, rfl, l, c⟩, k⟩
end
/-! ### expressions in short: the name that stands in the i-th slot -/
section
variable {X : Cx}
theorem pv (i : Nat) {x : Str} {pos : Pos} (hN : X.N[i]? = some x := by rfl) (hv : Vis X.env.scope x := by first | exact Or.inl rfl | exact Or.inr (Or.inl rfl) | exact Or.inr (Or.inr rfl)) (hd : (x == ("__debug__" : Str)) = false := by decide)
    (hcd : (x == ("__classdict__" : Str)) = false := by decide) : PE X (.Name x pos) (tVar i) := pe_var hN hv hd hcd
end

/-! ### tests -/
theorem iteF {A B : Prop} (h : B) : if false = true then A else B := by
  rw [if_neg Bool.false_ne_true]
  exact h
theorem iteT {A B : Prop} (h : A) : if true = true then A else B := by
  rw [if_pos rfl]
  exact h
/-! ### heaps -/
def Same (H H' : Hp) : Prop := ∀ b o, H b = some o → H' b = some o
theorem Same.refl (H : Hp) : Same H H := fun _ _ h => h
theorem Same.trans {H H1 H2 : Hp} (a : Same H H1) (b : Same H1 H2) : Same H H2 := fun c o h => b c o (a c o h)
theorem Same.free {H H' : Hp} (e : Same H H') {l : Addr} (h : H' l = Option.none) : H l = Option.none := by
  cases q : H l with
  | none => rfl
  | some o =>
    rw [e l o q] at h
    cases h
theorem Same.seq {K : PySem.W.Frag} {H H' : Hp} {a : Addr} {xs : List V} (e : Same H H') (h : SqL K H a xs) : SqL K H' a xs := by
  rcases h with (h | ⟨o, h⟩) | h
  · exact .inl (.inl (e _ _ h))
  · exact .inl (.inr ⟨o, e _ _ h⟩)
  · exact .inr h

end L2

/-! Own additions to the hand layer: slices of texts, unpacking a list, isinstance, calls by a bundle. -/
namespace L3
open PySem PySem.Spec PyProof.Rows L2
theorem bt_len : bootBuiltins "len" = some (.builtin "len") := by decide +kernel
theorem bt_min : bootBuiltins "min" = some (.builtin "min") := by decide +kernel
theorem bt_max : bootBuiltins "max" = some (.builtin "max") := by decide +kernel
theorem bt_isinstance : bootBuiltins "isinstance" = some (.builtin "isinstance") := by decide +kernel
theorem bt_int : bootBuiltins "int" = some (.type "int") := by decide +kernel
theorem bt_str : bootBuiltins "str" = some (.type "str") := by decide +kernel
theorem bt_bool : bootBuiltins "bool" = some (.type "bool") := by decide +kernel
theorem bt_list : bootBuiltins "list" = some (.type "list") := by decide +kernel
theorem bt_tuple : bootBuiltins "tuple" = some (.type "tuple") := by decide +kernel

/-! ### texts as lists of codes -/
abbrev cl (z : Str) : List Nat := z.cps.toList
theorem str_ext {a b : Str} (h : cl a = cl b) : a = b := by
  cases a; cases b; congr 1; exact Array.ext' h
theorem cl_append (a b : Str) : cl (a ++ b) = cl a ++ cl b := by
  show (a.cps ++ b.cps).toList = _
  rw [Array.toList_append]
theorem cl_length (a : Str) : (cl a).length = a.length := by
  show a.cps.toList.length = a.cps.size
  rw [Array.length_toList]
section
variable {X : Cx}
theorem pe_ty {x : Str} {T : String} {pos : Pos} (hg : Gl X x) (hm : X.mg x = none) (hv : bootBuiltins x = some (.type T)) (hn : x ≠ "__name__" := by decide) (hdb : (x == ("__debug__" : Str)) = false := by decide) :
    PE X (.Name x pos) (tC (.ty T)) := pe_bltn (v := .ty T) hg hm hv rfl hn hdb
theorem call_isinst : CallR X (.builtin "isinstance") (fun xs H Q => ∃ x T t b, xs = [x, .ty T] ∧ TyOf X.K H x t ∧ PySem.W.kitOne X.K t (.type T) = some b ∧ Q (.bl b) H) := by
  intro pins s σ H xs us Q I r h
  obtain ⟨x, T, t, b, rfl, ty, e, q⟩ := h
  obtain ⟨u, w', rfl, rx, rt⟩ := vals2 r
  cases rt
  exact isinst_ok I rx ty e fun tk => ⟨.bl b, H, I.tok _, rfl, q⟩
/-! ### an own def as a caller sees it -/
def Cal (P : Program) (w : World) (K : PySem.W.Frag) (mg : Str → Option Value) (base : Heap) (x : Str) (ps : List Str) (k : Nat) (sp : Sp) : Prop :=
  ∃ f fd, FnOk P w K mg base CX0 k f fd ps sp ∧ Binds K fd ps [] ∧ PySem.W.keepIn K (.ref f) = true ∧ mg x = some (.ref f)
def tFn (sp : Sp) (t : TA) : TE := fun σ H Q => t σ H fun vs H1 => sp vs H1 Q E0
theorem pe_fn {x : Str} {ps : List Str} {k k' : Nat} {sp : Sp} {p pos : Pos} {e : Expr} {es : List Expr} {t : TA} (C : Cal X.prog X.w X.K X.mg X.base x ps k sp) (hr : Room k' X.A) (hk : k ≤ k') (hg : Gl X x)
    (ha : PA X (e :: es) t) (hdb : (x == ("__debug__" : Str)) = false := by decide) (he : starEach (e :: es) X.env = (false, eval e X.env) :: starEach es X.env := by rfl) (hpl : (backTo pos (starEach es X.env)).any (·.1) = false := by rfl) :
    PE X (.Call (.Name x p) (e :: es) [] pos) (tFn sp t) := by
  obtain ⟨f, fd, F, b, kp, hm⟩ := C
  intro pins s σ H Q I h
  refine wpAny_Call_Name_kw (ld_glob I hg hm ?_ hdb)
  refine PySem.W.callWith_K (h₀ := X.base) I.ok.mod.kin kp (thn (ha pos pins s σ H _ I h) fun us s1 ⟨vs, H1, I1, r, q⟩ => ⟨I1.kIn, ?_⟩) he hpl
  exact run_fn (dvs := []) F (hr.mono hk) b .nil pass0 I1 r (by rw [List.append_nil]; exact q)
end
/-! ### a cut: what holds behind a statement, a value that is forgotten but for a word -/
section
variable {X : Cx}
def tMid (t u : TS) : TS := fun D σ H => ∃ M : L2.St → Hp → Prop, t { D with nx := M } σ H ∧ ∀ σ' H', M σ' H' → u D σ' H'
theorem pss_mid {st : Stmt} {rest : List Stmt} {t u : TS} (h1 : PS X st t) (h2 : PSs X rest u) : PSs X (st :: rest) (tMid t u) := by
  intro pins s σ H D I h
  obtain ⟨M, ht, hu⟩ := h
  refine wpAny_execs_cons (thn (h1 pins s σ H { D with nx := M } I ht) fun f s1 q => ?_)
  cases f with
  | next =>
    obtain ⟨σ', H', I', q⟩ := q
    exact h2 pins s1 σ' H' D I' (hu σ' H' q)
  | ret v => exact q
  | brk => exact q
  | cont => exact q
def tAbs (t : TE) : TE := fun σ H Q => ∃ P : V → Hp → Prop, t σ H P ∧ ∀ v H', P v H' → Q v H'
theorem pe_abs {e : Expr} {t : TE} (h : PE X e t) : PE X e (tAbs t) := by
  intro pins s σ H Q I hw
  obtain ⟨P, ht, hq⟩ := hw
  exact thn (h pins s σ H P I ht) fun u s1 ⟨v, H1, I1, r1, q1⟩ => ⟨v, H1, I1, r1, hq v H1 q1⟩
def tAbsT (t : TT) : TT := fun σ H Q => ∃ P : Bool → Hp → Prop, t σ H P ∧ ∀ v H', P v H' → Q v H'
theorem pt_abs {e : Expr} {t : TT} (h : PT X e t) : PT X e (tAbsT t) := by
  intro pins s σ H Q I hw
  obtain ⟨P, ht, hq⟩ := hw
  exact thn (h pins s σ H P I ht) fun u s1 ⟨H1, I1, q1⟩ => ⟨H1, I1, hq u H1 q1⟩
def rPick (K : PySem.W.Frag) : R2 := fun x y H Q => ∃ p xs i, x = .ref p ∧ y = .int i ∧ SqL K H p xs ∧ 0 ≤ i ∧ i < xs.length ∧ ∃ W : V → Prop, (∀ v ∈ xs, W v) ∧ ∀ v, W v → Q v H
theorem ix_pick : IxR X (rPick X.K) := by
  intro value slice pins s σ H x y v u Q I rx ry h hs
  obtain ⟨p, xs, i, rfl, rfl, hq, h0, h1, W, hW, q⟩ := h
  obtain ⟨n, rfl⟩ := Int.eq_ofNat_of_zero_le h0
  have hn : n < xs.length := by omega
  exact ix_list value slice pins s σ H _ _ v u Q I rx ry ⟨p, xs, _, xs[n], rfl, rfl, hq, atI_nat (by rw [List.getElem?_eq_getElem hn]), q _ (hW _ (List.getElem_mem hn))⟩ hs
end
theorem pz {j : Int} (h : decide (0 < j) = true := by decide) : 0 < j := of_decide_eq_true h
theorem iteD {c A B : Prop} [Decidable c] (hc : ¬ c) (h : B) : if decide c = true then A else B := by
  rw [decide_eq_false hc]
  exact iteF h
theorem iteDT {c A B : Prop} [Decidable c] (hc : c) (h : A) : if decide c = true then A else B := by
  rw [decide_eq_true hc]
  exact iteT h
theorem iteDd {c A B : Prop} [Decidable c] (h1 : c → A) (h2 : ¬ c → B) : if decide c = true then A else B := by
  by_cases h : c
  · exact iteDT h (h1 h)
  · exact iteD h (h2 h)
theorem iteNd {c A B : Prop} [Decidable c] (h1 : ¬ c → A) (h2 : c → B) : if (!decide c) = true then A else B := by
  by_cases h : c
  · rw [decide_eq_true h]; exact iteF (h2 h)
  · rw [decide_eq_false h]; exact iteT (h1 h)
theorem same_new {H : Hp} {p : Addr} (h : H p = none) (o : HO) : Same H (upd H p o) := fun b u q => by rw [upd_ne (ne_of_none q h)]; exact q
theorem at_mem {α : Type} {xs : List α} {i : Int} (h0 : 0 ≤ i) (h1 : i < xs.length) : ∃ v, atI xs i = some v ∧ v ∈ xs := by
  obtain ⟨n, rfl⟩ := Int.eq_ofNat_of_zero_le h0
  have hn : n < xs.length := by omega
  exact ⟨xs[n], atI_nat (by rw [List.getElem?_eq_getElem hn]), List.getElem_mem hn⟩
theorem at_some {α : Type} {xs : List α} {i : Int} (h0 : 0 ≤ i) (h1 : i < xs.length) : ∃ v, atI xs i = some v ∧ xs[i.toNat]? = some v := by
  obtain ⟨n, rfl⟩ := Int.eq_ofNat_of_zero_le h0
  have hn : n < xs.length := by omega
  exact ⟨xs[n], atI_nat (by rw [List.getElem?_eq_getElem hn]), by simp [hn]⟩
theorem szl {n : Nat} (h : n ≤ 100000) : n ≤ sizeLine := Nat.le_trans h (by rw [sizeLine_eq]; decide)
end L3

/-! Deep data: what a value stands for (numbers, texts, tuples and lists within one another), and == and in over it. -/
namespace L3
open PySem PySem.Spec PyProof.Rows L2 PySem.SeqAt

inductive D where
  | non | bl (b : Bool) | int (i : Int) | str (x : Str) | tup (xs : List D) | lst (xs : List D)

mutual
def Rep (K : PySem.W.Frag) (H : Hp) : D → V → Prop
  | .non, v => v = .non
  | .bl b, v => v = .bl b
  | .int i, v => v = .int i
  | .str x, v => v = .str x
  | .tup ds, v => ∃ a xs, v = .ref a ∧ SqT K H a xs ∧ Reps K H ds xs
  | .lst ds, v => ∃ a xs, v = .ref a ∧ SqL K H a xs ∧ Reps K H ds xs
def Reps (K : PySem.W.Frag) (H : Hp) : List D → List V → Prop
  | [], vs => vs = []
  | d :: ds, vs => ∃ v r, vs = v :: r ∧ Rep K H d v ∧ Reps K H ds r
end
theorem Same.seqT {K : PySem.W.Frag} {H H' : Hp} {a : Addr} {xs : List V} (e : Same H H') (h : SqT K H a xs) : SqT K H' a xs := by
  rcases h with (h | ⟨o, h⟩) | h
  · exact .inl (.inl (e _ _ h))
  · exact .inl (.inr ⟨o, e _ _ h⟩)
  · exact .inr h
mutual
theorem Rep.mono {K : PySem.W.Frag} {H H' : Hp} (g : Same H H') : ∀ (d : D) (v : V), Rep K H d v → Rep K H' d v
  | .non, _, h => by unfold Rep at h ⊢; exact h
  | .bl _, _, h => by unfold Rep at h ⊢; exact h
  | .int _, _, h => by unfold Rep at h ⊢; exact h
  | .str _, _, h => by unfold Rep at h ⊢; exact h
  | .tup ds, _, h => by
    unfold Rep at h ⊢
    obtain ⟨a, xs, e, q, r⟩ := h
    exact ⟨a, xs, e, Same.seqT g q, Reps.mono g ds xs r⟩
  | .lst ds, _, h => by
    unfold Rep at h ⊢
    obtain ⟨a, xs, e, q, r⟩ := h
    exact ⟨a, xs, e, g.seq q, Reps.mono g ds xs r⟩
theorem Reps.mono {K : PySem.W.Frag} {H H' : Hp} (g : Same H H') : ∀ (ds : List D) (vs : List V), Reps K H ds vs → Reps K H' ds vs
  | [], _, h => by unfold Reps at h ⊢; exact h
  | d :: ds, _, h => by
    unfold Reps at h ⊢
    obtain ⟨v, r, e, q, t⟩ := h
    exact ⟨v, r, e, Rep.mono g d v q, Reps.mono g ds r t⟩
end
theorem Reps.nil {K : PySem.W.Frag} {H : Hp} : Reps K H [] [] := by unfold Reps; rfl
theorem Reps.cons {K : PySem.W.Frag} {H : Hp} {d : D} {v : V} {ds : List D} {vs : List V} (h : Rep K H d v) (t : Reps K H ds vs) : Reps K H (d :: ds) (v :: vs) := by
  unfold Reps; exact ⟨v, vs, rfl, h, t⟩
theorem Reps.inv {K : PySem.W.Frag} {H : Hp} {d : D} {ds : List D} {vs : List V} (h : Reps K H (d :: ds) vs) : ∃ v r, vs = v :: r ∧ Rep K H d v ∧ Reps K H ds r := by
  unfold Reps at h; exact h
theorem Reps.inv0 {K : PySem.W.Frag} {H : Hp} {vs : List V} (h : Reps K H [] vs) : vs = [] := by
  unfold Reps at h; exact h
theorem Reps.length {K : PySem.W.Frag} {H : Hp} : ∀ {ds : List D} {vs : List V}, Reps K H ds vs → ds.length = vs.length
  | [], _, h => by rw [h.inv0]; rfl
  | d :: ds, _, h => by
    obtain ⟨v, r, rfl, _, t⟩ := h.inv
    rw [List.length_cons, List.length_cons, Reps.length t]
theorem Reps.get {K : PySem.W.Frag} {H : Hp} : ∀ {ds : List D} {vs : List V} {j : Nat} {d : D}, Reps K H ds vs → ds[j]? = some d → ∃ v, vs[j]? = some v ∧ Rep K H d v
  | [], _, _, _, _, e => by simp at e
  | d :: ds, _, 0, x, h, e => by
    obtain ⟨v, r, rfl, q, t⟩ := h.inv
    simp at e; subst e
    exact ⟨v, rfl, q⟩
  | d :: ds, _, j + 1, x, h, e => by
    obtain ⟨v, r, rfl, q, t⟩ := h.inv
    obtain ⟨u, e1, e2⟩ := Reps.get (j := j) (d := x) t (by simpa using e)
    exact ⟨u, by simpa using e1, e2⟩
/-! ### Python's == -/
mutual
def eqD : D → D → Bool
  | .non, .non => true
  | .bl a, .bl b => a == b
  | .bl a, .int b => (if a then 1 else 0) == b
  | .int a, .bl b => a == (if b then 1 else 0)
  | .int a, .int b => a == b
  | .str a, .str b => a == b
  | .tup xs, .tup ys => eqDs xs ys
  | .lst xs, .lst ys => eqDs xs ys
  | _, _ => false
def eqDs : List D → List D → Bool
  | [], [] => true
  | x :: xs, y :: ys => eqD x y && eqDs xs ys
  | _, _ => false
end
mutual
def deep : D → Nat
  | .tup xs => deeps xs + 1
  | .lst xs => deeps xs + 1
  | _ => 0
def deeps : List D → Nat
  | [] => 0
  | x :: xs => max (deep x) (deeps xs)
end
mutual
theorem eqD_refl : ∀ d : D, eqD d d = true
  | .non => by simp [eqD]
  | .bl b => by simp [eqD]
  | .int i => by simp [eqD]
  | .str x => by simp [eqD]
  | .tup xs => by rw [eqD]; exact eqDs_refl xs
  | .lst xs => by rw [eqD]; exact eqDs_refl xs
theorem eqDs_refl : ∀ xs : List D, eqDs xs xs = true
  | [] => by simp [eqDs]
  | x :: xs => by rw [eqDs, eqD_refl x, eqDs_refl xs]; rfl
end
/-! no truths within -/
mutual
def noB : D → Bool
  | .bl _ => false
  | .tup xs => noBs xs
  | .lst xs => noBs xs
  | _ => true
def noBs : List D → Bool
  | [] => true
  | x :: xs => noB x && noBs xs
end
mutual
theorem eqD_eq : ∀ d e : D, noB d = true → noB e = true → eqD d e = true → d = e
  | .non, e, _, h2, h => by cases e <;> simp_all [eqD]
  | .bl b, e, h1, _, _ => by simp [noB] at h1
  | .int i, e, _, h2, h => by cases e <;> simp_all [eqD, noB]
  | .str x, e, _, h2, h => by cases e <;> simp_all [eqD]
  | .tup xs, e, h1, h2, h => by
    cases e <;> simp only [eqD, noB, Bool.false_eq_true] at h1 h2 h
    rw [eqDs_eq _ _ h1 h2 h]
  | .lst xs, e, h1, h2, h => by
    cases e <;> simp only [eqD, noB, Bool.false_eq_true] at h1 h2 h
    rw [eqDs_eq _ _ h1 h2 h]
theorem eqDs_eq : ∀ xs ys : List D, noBs xs = true → noBs ys = true → eqDs xs ys = true → xs = ys
  | [], ys, _, _, h => by cases ys <;> simp_all [eqDs]
  | x :: xs, ys, h1, h2, h => by
    cases ys with
    | nil => simp [eqDs] at h
    | cons y ys =>
      simp only [eqDs, noBs, Bool.and_eq_true] at h1 h2 h
      rw [eqD_eq x y h1.1 h2.1 h.1, eqDs_eq xs ys h1.2 h2.2 h.2]
end
def pickEq (xs ys : List D) (j : Nat) : Bool := match xs[j]?, ys[j]? with
  | some x, some y => eqD x y
  | _, _ => false
theorem eqDs_all : ∀ xs ys : List D, eqDs xs ys = ((List.range (min xs.length ys.length)).all (pickEq xs ys) && (xs.length == ys.length))
  | [], [] => by simp [eqDs]
  | [], y :: ys => by simp [eqDs]
  | x :: xs, [] => by simp [eqDs]
  | x :: xs, y :: ys => by
    have ih := eqDs_all xs ys
    have e : min (x :: xs).length (y :: ys).length = min xs.length ys.length + 1 := by simp only [List.length_cons]; omega
    have p : pickEq (x :: xs) (y :: ys) ∘ Nat.succ = pickEq xs ys := by
      funext j; simp [pickEq]
    rw [eqDs, e, List.range_succ_eq_map, List.all_cons, List.all_map, p, ih]
    have q : pickEq (x :: xs) (y :: ys) 0 = eqD x y := by simp [pickEq]
    have l : ((x :: xs).length == (y :: ys).length) = (xs.length == ys.length) := by
      simp only [List.length_cons]
      by_cases h : xs.length = ys.length <;> simp [h]
    rw [q, l, Bool.and_assoc]

section
variable {X : Cx} {pins : List (Addr × Obj)} {σ : L2.St} {H : Hp} {s : Shared}
/-! a value stands for one datum -/
mutual
theorem Rep.inj (I : Inv X pins σ H s) : ∀ (d e : D) (v : V), Rep X.K H d v → Rep X.K H e v → d = e
  | .non, e, v, h, k => by unfold Rep at h; subst h; cases e <;> simp [Rep] at k <;> rfl
  | .bl b, e, v, h, k => by unfold Rep at h; subst h; cases e <;> simp [Rep] at k; rw [k]
  | .int i, e, v, h, k => by unfold Rep at h; subst h; cases e <;> simp [Rep] at k; rw [k]
  | .str x, e, v, h, k => by unfold Rep at h; subst h; cases e <;> simp [Rep] at k; rw [k]
  | .tup ds, e, v, h, k => by
    unfold Rep at h
    obtain ⟨a, xs, rfl, q, r⟩ := h
    cases e with
    | tup es =>
      unfold Rep at k
      obtain ⟨b, ys, e1, q2, r2⟩ := k
      cases e1
      have := I.tuple_inj q q2
      subst this
      rw [Reps.inj I ds es xs r r2]
    | lst es =>
      unfold Rep at k
      obtain ⟨b, ys, e1, q2, r2⟩ := k
      cases e1
      obtain ⟨i1, _, t1, _⟩ := I.tuple q
      obtain ⟨i2, _, t2, _⟩ := I.list q2
      exact absurd rfl (ne_of_list_tuple t2.isList (let ⟨o, h1, h2, n, h3⟩ := t1; ⟨o, h1, h2, n, h3⟩))
    | _ => simp [Rep] at k
  | .lst ds, e, v, h, k => by
    unfold Rep at h
    obtain ⟨a, xs, rfl, q, r⟩ := h
    cases e with
    | lst es =>
      unfold Rep at k
      obtain ⟨b, ys, e1, q2, r2⟩ := k
      cases e1
      have := I.list_inj q q2
      subst this
      rw [Reps.inj I ds es xs r r2]
    | tup es =>
      unfold Rep at k
      obtain ⟨b, ys, e1, q2, r2⟩ := k
      cases e1
      obtain ⟨i1, _, t1, _⟩ := I.tuple q2
      obtain ⟨i2, _, t2, _⟩ := I.list q
      exact absurd rfl (ne_of_list_tuple t2.isList (let ⟨o, h1, h2, n, h3⟩ := t1; ⟨o, h1, h2, n, h3⟩))
    | _ => simp [Rep] at k
theorem Reps.inj (I : Inv X pins σ H s) : ∀ (ds es : List D) (vs : List V), Reps X.K H ds vs → Reps X.K H es vs → ds = es
  | [], es, vs, h, k => by
    rw [h.inv0] at k
    cases es with
    | nil => rfl
    | cons e es => obtain ⟨_, _, z, _⟩ := k.inv; cases z
  | d :: ds, es, vs, h, k => by
    obtain ⟨v, r, rfl, q, t⟩ := h.inv
    cases es with
    | nil => have z := k.inv0; cases z
    | cons e es =>
      obtain ⟨_, _, z, q2, t2⟩ := k.inv
      cases z
      rw [Rep.inj I d e v q q2, Reps.inj I ds es r t t2]
end
end
end L3

/-! == and != and in over deep data. -/
namespace L3
open PySem PySem.Spec PyProof.Rows L2 PySem.SeqAt
section
variable {X : Cx} {pins : List (Addr × Obj)} {σ : L2.St} {H : Hp} {s : Shared} {A : Around}
theorem in1_units (A : Around) : A.in1.units = A.units + 1 := rfl
abbrev Elts (A : Around) (s : Shared) (xs ys : List V) (ds es : List D) : Prop :=
  ∀ us ws, Vals xs us → Vals ys ws → ∀ (j : Nat) v u, us[j]? = some v → ws[j]? = some u → EqAt A s v u (pickEq ds es j)
theorem rc_tup {a b : Addr} {xs ys : List V} {ds es : List D} (I : Inv X pins σ H s) (q : SqT X.K H a xs) (r : Reps X.K H ds xs) (q2 : SqT X.K H b ys) (r2 : Reps X.K H es ys) (hu : A.units < cLine) (he : Elts A.in1 s xs ys ds es) :
    RcAt A s (.ref a) (.ref b) (eqDs ds es) ∧ RcNeAt A s (.ref a) (.ref b) (!eqDs ds es) := by
  obtain ⟨us, rv, t1, _⟩ := I.tuple q
  obtain ⟨ws, rw', t2, _⟩ := I.tuple q2
  have l1 : us.toArray.size = ds.length := by rw [List.size_toArray, ← rv.length, r.length]
  have l2 : ws.toArray.size = es.length := by rw [List.size_toArray, ← rw'.length, r2.length]
  have el : ∀ j (h1 : j < us.toArray.size) (h2 : j < ws.toArray.size), EqAt A.in1 s us.toArray[j] ws.toArray[j] (pickEq ds es j) := fun j h1 h2 =>
    he us ws rv rw' j _ _ (by simp at h1 ⊢) (by simp at h2 ⊢)
  have e := RcAt.tuples (A := A) (s := s) (l := a) (b := b) t1 t2 hu el
  have n := RcNeAt.tuples (A := A) (s := s) (l := a) (b := b) t1 t2 hu el
  rw [l1, l2, ← eqDs_all] at e n
  exact ⟨e, n⟩
theorem rc_lst {a b : Addr} {xs ys : List V} {ds es : List D} (I : Inv X pins σ H s) (q : SqL X.K H a xs) (r : Reps X.K H ds xs) (q2 : SqL X.K H b ys) (r2 : Reps X.K H es ys) (hu : A.units < cLine) (he : Elts A.in1 s xs ys ds es) :
    RcAt A s (.ref a) (.ref b) (eqDs ds es) ∧ RcNeAt A s (.ref a) (.ref b) (!eqDs ds es) := by
  obtain ⟨us, rv, t1, _⟩ := I.list q
  obtain ⟨ws, rw', t2, _⟩ := I.list q2
  have l1 : us.toArray.size = ds.length := by rw [List.size_toArray, ← rv.length, r.length]
  have l2 : ws.toArray.size = es.length := by rw [List.size_toArray, ← rw'.length, r2.length]
  have el : ∀ j (h1 : j < us.toArray.size) (h2 : j < ws.toArray.size), EqAt A.in1 s us.toArray[j] ws.toArray[j] (pickEq ds es j) := fun j h1 h2 =>
    he us ws rv rw' j _ _ (by simp at h1 ⊢) (by simp at h2 ⊢)
  by_cases hl : ds.length = es.length
  · have e := RcAt.lists (A := A) (s := s) (l := a) (b := b) t1.isList t2.isList (by omega) hu el
    have n := RcNeAt.lists (A := A) (s := s) (l := a) (b := b) t1.isList t2.isList (by omega) hu el
    have z : eqDs ds es = (List.range ds.length).all (pickEq ds es) := by
      rw [eqDs_all, hl]; simp
    rw [l1, ← z] at e n
    exact ⟨e, n⟩
  · have hs : (us.toArray.size != ws.toArray.size) = true := by rw [l1, l2]; simpa using hl
    have e := RcAt.lists_lengths (A := A) (s := s) (l := a) (b := b) t1.isList t2.isList hs hu
    have n := RcNeAt.lists_lengths (A := A) (s := s) (l := a) (b := b) t1.isList t2.isList hs hu
    have z : eqDs ds es = false := by
      rw [eqDs_all]; simp [hl]
    rw [z]
    exact ⟨e, n⟩
mutual
theorem eqAtD (I : Inv X pins σ H s) : ∀ (d e : D) (A : Around) (v u : V) (v' u' : Value), Rep X.K H d v → Rep X.K H e u → RelV v v' → RelV u u' → A.units + deep d < cLine → EqAt A s v' u' (eqD d e)
  | .non, e, A, v, u, v', u', hd, he, rv, ru, hu => by
    unfold Rep at hd; subst hd; cases rv
    cases e <;> unfold Rep at he
    · subst he; cases ru; exact EqAt.same _
    · subst he; cases ru; exact EqAt.none_bool _
    · subst he; obtain ⟨t, rfl⟩ := ru; exact EqAt.none_int _ _
    · subst he; obtain ⟨t, rfl⟩ := ru; exact EqAt.none_str _ _
    · obtain ⟨a, xs, rfl, q, _⟩ := he; cases ru; obtain ⟨_, _, t, _⟩ := I.tuple q; exact EqAt.none_tuple t (by omega)
    · obtain ⟨a, xs, rfl, q, _⟩ := he; cases ru; obtain ⟨_, _, t, _⟩ := I.list q; exact EqAt.none_list t.isList (by omega)
  | .bl b, e, A, v, u, v', u', hd, he, rv, ru, hu => by
    unfold Rep at hd; subst hd; cases rv
    cases e <;> unfold Rep at he
    · subst he; cases ru; exact EqAt.bool_none _
    · subst he; cases ru; exact EqAt.bool_bool _ _
    · subst he; obtain ⟨t, rfl⟩ := ru; exact EqAt.bool_int _ _ _
    · subst he; obtain ⟨t, rfl⟩ := ru; exact EqAt.bool_str _ _ _
    · obtain ⟨a, xs, rfl, q, _⟩ := he; cases ru; obtain ⟨_, _, t, _⟩ := I.tuple q; exact EqAt.bool_tuple _ t (by omega)
    · obtain ⟨a, xs, rfl, q, _⟩ := he; cases ru; obtain ⟨_, _, t, _⟩ := I.list q; exact EqAt.bool_list _ t.isList (by omega)
  | .int i, e, A, v, u, v', u', hd, he, rv, ru, hu => by
    unfold Rep at hd; subst hd; obtain ⟨t0, rfl⟩ := rv
    cases e <;> unfold Rep at he
    · subst he; cases ru; exact EqAt.int_none _ _
    · subst he; cases ru; exact EqAt.int_bool _ _ _
    · subst he; obtain ⟨t, rfl⟩ := ru; exact EqAt.int_int _ _ _ _
    · subst he; obtain ⟨t, rfl⟩ := ru; exact EqAt.int_str _ _ _ _
    · obtain ⟨a, xs, rfl, q, _⟩ := he; cases ru; obtain ⟨_, _, t, _⟩ := I.tuple q; exact EqAt.int_tuple _ _ t (by omega)
    · obtain ⟨a, xs, rfl, q, _⟩ := he; cases ru; obtain ⟨_, _, t, _⟩ := I.list q; exact EqAt.int_list _ _ t.isList (by omega)
  | .str x, e, A, v, u, v', u', hd, he, rv, ru, hu => by
    unfold Rep at hd; subst hd; obtain ⟨t0, rfl⟩ := rv
    cases e <;> unfold Rep at he
    · subst he; cases ru; exact EqAt.str_none _ _
    · subst he; cases ru; exact EqAt.str_bool _ _ _
    · subst he; obtain ⟨t, rfl⟩ := ru; exact EqAt.str_int _ _ _ _
    · subst he; obtain ⟨t, rfl⟩ := ru; exact EqAt.str_str _ _ _ _
    · obtain ⟨a, xs, rfl, q, _⟩ := he; cases ru; obtain ⟨_, _, t, _⟩ := I.tuple q; exact EqAt.str_tuple _ _ t (by omega)
    · obtain ⟨a, xs, rfl, q, _⟩ := he; cases ru; obtain ⟨_, _, t, _⟩ := I.list q; exact EqAt.str_list _ _ t.isList (by omega)
  | .tup ds, e, A, v, u, v', u', hd, he, rv, ru, hu => by
    have hd0 := hd
    have he0 := he
    unfold Rep at hd
    obtain ⟨a, xs, rfl, q, r⟩ := hd
    cases rv
    rw [deep] at hu
    obtain ⟨_, _, t0, _⟩ := I.tuple q
    cases e <;> unfold Rep at he
    · subst he; cases ru; exact EqAt.tuple_none t0 (by omega)
    · subst he; cases ru; exact EqAt.tuple_bool _ t0 (by omega)
    · subst he; obtain ⟨t, rfl⟩ := ru; exact EqAt.tuple_int _ _ t0 (by omega)
    · subst he; obtain ⟨t, rfl⟩ := ru; exact EqAt.tuple_str _ _ t0 (by omega)
    · rename_i es
      obtain ⟨b, ys, rfl, q2, r2⟩ := he
      cases ru
      by_cases hab : a = b
      · subst hab
        rw [Rep.inj I _ _ _ hd0 he0, eqD_refl]
        exact EqAt.same _
      · rw [eqD]
        exact EqAt.of_refs hab (rc_tup I q r q2 r2 (by omega) fun us ws w1 w2 j v u e1 e2 => eqAtDs I ds es A.in1 xs ys us ws r r2 w1 w2 (by rw [in1_units]; omega) j v u e1 e2).1
    · obtain ⟨b, ys, rfl, q2, r2⟩ := he
      cases ru
      obtain ⟨_, _, t, _⟩ := I.list q2
      exact EqAt.tuple_list t0 t.isList (by omega)
  | .lst ds, e, A, v, u, v', u', hd, he, rv, ru, hu => by
    have hd0 := hd
    have he0 := he
    unfold Rep at hd
    obtain ⟨a, xs, rfl, q, r⟩ := hd
    cases rv
    rw [deep] at hu
    obtain ⟨_, _, t0, _⟩ := I.list q
    cases e <;> unfold Rep at he
    · subst he; cases ru; exact EqAt.list_none t0.isList (by omega)
    · subst he; cases ru; exact EqAt.list_bool _ t0.isList (by omega)
    · subst he; obtain ⟨t, rfl⟩ := ru; exact EqAt.list_int _ _ t0.isList (by omega)
    · subst he; obtain ⟨t, rfl⟩ := ru; exact EqAt.list_str _ _ t0.isList (by omega)
    · obtain ⟨b, ys, rfl, q2, r2⟩ := he
      cases ru
      obtain ⟨_, _, t, _⟩ := I.tuple q2
      exact EqAt.list_tuple t0.isList t (by omega)
    · rename_i es
      obtain ⟨b, ys, rfl, q2, r2⟩ := he
      cases ru
      by_cases hab : a = b
      · subst hab
        rw [Rep.inj I _ _ _ hd0 he0, eqD_refl]
        exact EqAt.same _
      · rw [eqD]
        exact EqAt.of_refs hab (rc_lst I q r q2 r2 (by omega) fun us ws w1 w2 j v u e1 e2 => eqAtDs I ds es A.in1 xs ys us ws r r2 w1 w2 (by rw [in1_units]; omega) j v u e1 e2).1
theorem eqAtDs (I : Inv X pins σ H s) : ∀ (ds es : List D) (A : Around) (xs ys : List V) (us ws : List Value), Reps X.K H ds xs → Reps X.K H es ys → Vals xs us → Vals ys ws → A.units + deeps ds < cLine →
    ∀ (j : Nat) v u, us[j]? = some v → ws[j]? = some u → EqAt A s v u (pickEq ds es j)
  | [], es, A, xs, ys, us, ws, hd, he, rv, ru, hu, j, v, u, e1, e2 => by
    rw [hd.inv0] at rv; cases rv; simp at e1
  | d :: ds, [], A, xs, ys, us, ws, hd, he, rv, ru, hu, j, v, u, e1, e2 => by
    rw [he.inv0] at ru; cases ru; simp at e2
  | d :: ds, e :: es, A, xs, ys, us, ws, hd, he, rv, ru, hu, j, v, u, e1, e2 => by
    obtain ⟨x, xs, rfl, hx, hxs⟩ := hd.inv
    obtain ⟨y, ys, rfl, hy, hys⟩ := he.inv
    rw [deeps] at hu
    cases rv with
    | cons rv1 rv2 =>
      cases ru with
      | cons ru1 ru2 =>
        cases j with
        | zero =>
          simp at e1 e2
          subst e1 e2
          have p : pickEq (d :: ds) (e :: es) 0 = eqD d e := by simp [pickEq]
          rw [p]
          exact eqAtD I d e A x y _ _ hx hy rv1 ru1 (by omega)
        | succ j =>
          have p : pickEq (d :: ds) (e :: es) (j + 1) = pickEq ds es j := by simp [pickEq]
          rw [p]
          exact eqAtDs I ds es A xs ys _ _ hxs hys rv2 ru2 (by omega) j v u (by simpa using e1) (by simpa using e2)
end
theorem rcD (I : Inv X pins σ H s) (d e : D) {v u : V} {v' u' : Value} (hd : Rep X.K H d v) (he : Rep X.K H e u) (rv : RelV v v') (ru : RelV u u') (hu : A.units + deep d < cLine) : RcAt A s v' u' (eqD d e) ∧ RcNeAt A s v' u' (!eqD d e) := by
  cases d with
  | non =>
    unfold Rep at hd
    subst hd; cases rv
    cases e with
    | non =>
      unfold Rep at he
      subst he; cases ru
      exact ⟨RcAt.none_none , RcNeAt.none_none ⟩
    | bl b1 =>
      unfold Rep at he
      subst he; cases ru
      exact ⟨RcAt.none_bool _ , RcNeAt.none_bool _ ⟩
    | int i1 =>
      unfold Rep at he
      subst he; obtain ⟨t1, rfl⟩ := ru
      exact ⟨RcAt.none_int _ _ , RcNeAt.none_int _ _ ⟩
    | str x1 =>
      unfold Rep at he
      subst he; obtain ⟨t1, rfl⟩ := ru
      exact ⟨RcAt.none_str _ _ , RcNeAt.none_str _ _ ⟩
    | tup es =>
      unfold Rep at he
      obtain ⟨b, ys, rfl, q2, r2⟩ := he
      cases ru
      obtain ⟨_, _, t1, _⟩ := I.tuple q2
      exact ⟨RcAt.none_tuple t1 (by omega), RcNeAt.none_tuple t1 (by omega)⟩
    | lst es =>
      unfold Rep at he
      obtain ⟨b, ys, rfl, q2, r2⟩ := he
      cases ru
      obtain ⟨_, _, t1, _⟩ := I.list q2
      exact ⟨RcAt.none_list t1.isList (by omega), RcNeAt.none_list t1.isList (by omega)⟩
  | bl b0 =>
    unfold Rep at hd
    subst hd; cases rv
    cases e with
    | non =>
      unfold Rep at he
      subst he; cases ru
      exact ⟨RcAt.bool_none _ , RcNeAt.bool_none _ ⟩
    | bl b1 =>
      unfold Rep at he
      subst he; cases ru
      exact ⟨RcAt.bool_bool _ _ , RcNeAt.bool_bool _ _ ⟩
    | int i1 =>
      unfold Rep at he
      subst he; obtain ⟨t1, rfl⟩ := ru
      exact ⟨RcAt.bool_int _ _ _ , RcNeAt.bool_int _ _ _ ⟩
    | str x1 =>
      unfold Rep at he
      subst he; obtain ⟨t1, rfl⟩ := ru
      exact ⟨RcAt.bool_str _ _ _ , RcNeAt.bool_str _ _ _ ⟩
    | tup es =>
      unfold Rep at he
      obtain ⟨b, ys, rfl, q2, r2⟩ := he
      cases ru
      obtain ⟨_, _, t1, _⟩ := I.tuple q2
      exact ⟨RcAt.bool_tuple _ t1 (by omega), RcNeAt.bool_tuple _ t1 (by omega)⟩
    | lst es =>
      unfold Rep at he
      obtain ⟨b, ys, rfl, q2, r2⟩ := he
      cases ru
      obtain ⟨_, _, t1, _⟩ := I.list q2
      exact ⟨RcAt.bool_list _ t1.isList (by omega), RcNeAt.bool_list _ t1.isList (by omega)⟩
  | int i0 =>
    unfold Rep at hd
    subst hd; obtain ⟨t0, rfl⟩ := rv
    cases e with
    | non =>
      unfold Rep at he
      subst he; cases ru
      exact ⟨RcAt.int_none _ _ , RcNeAt.int_none _ _ ⟩
    | bl b1 =>
      unfold Rep at he
      subst he; cases ru
      exact ⟨RcAt.int_bool _ _ _ , RcNeAt.int_bool _ _ _ ⟩
    | int i1 =>
      unfold Rep at he
      subst he; obtain ⟨t1, rfl⟩ := ru
      exact ⟨RcAt.int_int _ _ _ _ , RcNeAt.int_int _ _ _ _ ⟩
    | str x1 =>
      unfold Rep at he
      subst he; obtain ⟨t1, rfl⟩ := ru
      exact ⟨RcAt.int_str _ _ _ _ , RcNeAt.int_str _ _ _ _ ⟩
    | tup es =>
      unfold Rep at he
      obtain ⟨b, ys, rfl, q2, r2⟩ := he
      cases ru
      obtain ⟨_, _, t1, _⟩ := I.tuple q2
      exact ⟨RcAt.int_tuple _ _ t1 (by omega), RcNeAt.int_tuple _ _ t1 (by omega)⟩
    | lst es =>
      unfold Rep at he
      obtain ⟨b, ys, rfl, q2, r2⟩ := he
      cases ru
      obtain ⟨_, _, t1, _⟩ := I.list q2
      exact ⟨RcAt.int_list _ _ t1.isList (by omega), RcNeAt.int_list _ _ t1.isList (by omega)⟩
  | str x0 =>
    unfold Rep at hd
    subst hd; obtain ⟨t0, rfl⟩ := rv
    cases e with
    | non =>
      unfold Rep at he
      subst he; cases ru
      exact ⟨RcAt.str_none _ _ , RcNeAt.str_none _ _ ⟩
    | bl b1 =>
      unfold Rep at he
      subst he; cases ru
      exact ⟨RcAt.str_bool _ _ _ , RcNeAt.str_bool _ _ _ ⟩
    | int i1 =>
      unfold Rep at he
      subst he; obtain ⟨t1, rfl⟩ := ru
      exact ⟨RcAt.str_int _ _ _ _ , RcNeAt.str_int _ _ _ _ ⟩
    | str x1 =>
      unfold Rep at he
      subst he; obtain ⟨t1, rfl⟩ := ru
      exact ⟨RcAt.str_str _ _ _ _ , RcNeAt.str_str _ _ _ _ ⟩
    | tup es =>
      unfold Rep at he
      obtain ⟨b, ys, rfl, q2, r2⟩ := he
      cases ru
      obtain ⟨_, _, t1, _⟩ := I.tuple q2
      exact ⟨RcAt.str_tuple _ _ t1 (by omega), RcNeAt.str_tuple _ _ t1 (by omega)⟩
    | lst es =>
      unfold Rep at he
      obtain ⟨b, ys, rfl, q2, r2⟩ := he
      cases ru
      obtain ⟨_, _, t1, _⟩ := I.list q2
      exact ⟨RcAt.str_list _ _ t1.isList (by omega), RcNeAt.str_list _ _ t1.isList (by omega)⟩
  | tup ds =>
    unfold Rep at hd
    obtain ⟨a, xs, rfl, q, r⟩ := hd
    cases rv
    rw [deep] at hu
    obtain ⟨_, _, t0, _⟩ := I.tuple q
    cases e with
    | non =>
      unfold Rep at he
      subst he; cases ru
      exact ⟨RcAt.tuple_none t0 (by omega), RcNeAt.tuple_none t0 (by omega)⟩
    | bl b1 =>
      unfold Rep at he
      subst he; cases ru
      exact ⟨RcAt.tuple_bool _ t0 (by omega), RcNeAt.tuple_bool _ t0 (by omega)⟩
    | int i1 =>
      unfold Rep at he
      subst he; obtain ⟨t1, rfl⟩ := ru
      exact ⟨RcAt.tuple_int _ _ t0 (by omega), RcNeAt.tuple_int _ _ t0 (by omega)⟩
    | str x1 =>
      unfold Rep at he
      subst he; obtain ⟨t1, rfl⟩ := ru
      exact ⟨RcAt.tuple_str _ _ t0 (by omega), RcNeAt.tuple_str _ _ t0 (by omega)⟩
    | tup es =>
      unfold Rep at he
      obtain ⟨b, ys, rfl, q2, r2⟩ := he
      cases ru
      obtain ⟨_, _, t1, _⟩ := I.tuple q2
      have z := rc_tup I q r q2 r2 (A := A) (by omega) fun us ws w1 w2 j v u e1 e2 => eqAtDs I ds es A.in1 xs ys us ws r r2 w1 w2 (by rw [in1_units]; omega) j v u e1 e2
      rw [eqD]; exact z
    | lst es =>
      unfold Rep at he
      obtain ⟨b, ys, rfl, q2, r2⟩ := he
      cases ru
      obtain ⟨_, _, t1, _⟩ := I.list q2
      exact ⟨RcAt.tuple_list t0 t1.isList (by omega), RcNeAt.tuple_list t0 t1.isList (by omega)⟩
  | lst ds =>
    unfold Rep at hd
    obtain ⟨a, xs, rfl, q, r⟩ := hd
    cases rv
    rw [deep] at hu
    obtain ⟨_, _, t0, _⟩ := I.list q
    cases e with
    | non =>
      unfold Rep at he
      subst he; cases ru
      exact ⟨RcAt.list_none t0.isList (by omega), RcNeAt.list_none t0.isList (by omega)⟩
    | bl b1 =>
      unfold Rep at he
      subst he; cases ru
      exact ⟨RcAt.list_bool _ t0.isList (by omega), RcNeAt.list_bool _ t0.isList (by omega)⟩
    | int i1 =>
      unfold Rep at he
      subst he; obtain ⟨t1, rfl⟩ := ru
      exact ⟨RcAt.list_int _ _ t0.isList (by omega), RcNeAt.list_int _ _ t0.isList (by omega)⟩
    | str x1 =>
      unfold Rep at he
      subst he; obtain ⟨t1, rfl⟩ := ru
      exact ⟨RcAt.list_str _ _ t0.isList (by omega), RcNeAt.list_str _ _ t0.isList (by omega)⟩
    | tup es =>
      unfold Rep at he
      obtain ⟨b, ys, rfl, q2, r2⟩ := he
      cases ru
      obtain ⟨_, _, t1, _⟩ := I.tuple q2
      exact ⟨RcAt.list_tuple t0.isList t1 (by omega), RcNeAt.list_tuple t0.isList t1 (by omega)⟩
    | lst es =>
      unfold Rep at he
      obtain ⟨b, ys, rfl, q2, r2⟩ := he
      cases ru
      obtain ⟨_, _, t1, _⟩ := I.list q2
      have z := rc_lst I q r q2 r2 (A := A) (by omega) fun us ws w1 w2 j v u e1 e2 => eqAtDs I ds es A.in1 xs ys us ws r r2 w1 w2 (by rw [in1_units]; omega) j v u e1 e2
      rw [eqD]; exact z
def rEqD (K : PySem.W.Frag) : R2 := fun x y H Q => ∃ d e, Rep K H d x ∧ Rep K H e y ∧ deep d ≤ 60 ∧ Q (.bl (eqD d e)) H
def rNeD (K : PySem.W.Frag) : R2 := fun x y H Q => ∃ d e, Rep K H d x ∧ Rep K H e y ∧ deep d ≤ 60 ∧ Q (.bl (!eqD d e)) H
theorem op_eqD (hu : X.A.units + 64 < cLine) : OpR X (compareOp .Eq) (rEqD X.K) := by
  intro pins s σ H x y v u Q I rx ry h
  obtain ⟨d, e, hd, he, hz, q⟩ := h
  exact (rcD (A := X.A) I d e hd he rx ry (by omega)).1 X.prog X.w X.xe _ ⟨.bl (eqD d e), H, I, rfl, q⟩
theorem op_neD (hu : X.A.units + 64 < cLine) : OpR X (compareOp .NotEq) (rNeD X.K) := by
  intro pins s σ H x y v u Q I rx ry h
  obtain ⟨d, e, hd, he, hz, q⟩ := h
  exact (rcD (A := X.A) I d e hd he rx ry (by omega)).2 X.prog X.w X.xe _ ⟨.bl (!eqD d e), H, I, rfl, q⟩
noncomputable def absD (K : PySem.W.Frag) (H : Hp) (u : Value) : D := by
  classical exact if h : ∃ d v, RelV v u ∧ Rep K H d v then h.choose else .non
theorem absD_eq {d : D} {v : V} {u : Value} (I : Inv X pins σ H s) (r : RelV v u) (h : Rep X.K H d v) : absD X.K H u = d := by
  have hx : ∃ d v, RelV v u ∧ Rep X.K H d v := ⟨d, v, r, h⟩
  unfold absD
  rw [dif_pos hx]
  obtain ⟨v2, r2, h2⟩ := hx.choose_spec
  have := r2.inj r
  subst this
  exact Rep.inj I _ _ _ h2 h
theorem any_vals {K : PySem.W.Frag} {H : Hp} {d : D} (f : Value → D) : ∀ {ds : List D} {xs : List V} {us : List Value}, Reps K H ds xs → Vals xs us → (∀ d v u, Rep K H d v → RelV v u → f u = d) → (us.any fun u => eqD (f u) d) = ds.any fun e => eqD e d
  | [], _, _, h, rv, _ => by rw [h.inv0] at rv; cases rv; rfl
  | e :: ds, _, _, h, rv, hf => by
    obtain ⟨v, r, rfl, q, t⟩ := h.inv
    cases rv with
    | cons r1 r2 => rw [List.any_cons, List.any_cons, hf _ _ _ q r1, any_vals f t r2 hf]
theorem mem_rep {K : PySem.W.Frag} {H : Hp} : ∀ {ds : List D} {xs : List V} {us : List Value}, Reps K H ds xs → Vals xs us → ∀ u ∈ us, ∃ d v, Rep K H d v ∧ RelV v u ∧ deep d ≤ deeps ds
  | [], _, _, h, rv, u, hu => by rw [h.inv0] at rv; cases rv; cases hu
  | e :: ds, _, _, h, rv, u, hu => by
    obtain ⟨v, r, rfl, q, t⟩ := h.inv
    cases rv with
    | cons r1 r2 =>
      rw [deeps]
      rcases List.mem_cons.mp hu with z | z
      · subst z; exact ⟨e, v, q, r1, by omega⟩
      · obtain ⟨d, w', a, b, c⟩ := mem_rep t r2 u z
        exact ⟨d, w', a, b, by omega⟩
def rInD (K : PySem.W.Frag) (neg : Bool) : R2 := fun x y H Q => ∃ d p xs ds, Rep K H d x ∧ y = .ref p ∧ SqL K H p xs ∧ Reps K H ds xs ∧ deeps ds ≤ 60 ∧ Q (.bl (if neg then !ds.any (fun e => eqD e d) else ds.any fun e => eqD e d)) H
theorem op_inD (hu : X.A.units + 64 < cLine) : OpR X (compareOp .In) (rInD X.K false) := by
  intro pins s σ H x y v u Q I rx ry h
  obtain ⟨d, p, xs, ds, hd, rfl, hq, hr, hz, q⟩ := h
  cases ry
  obtain ⟨its, rv, t, _⟩ := I.list hq
  refine in_listAt (fun u => eqD (absD X.K H u) d) t.isList (fun z hz' => ?_) ?_
  · obtain ⟨e, w', a, b, c⟩ := mem_rep hr rv z (by simpa using hz')
    have := eqAtD I e d X.A.in1 w' x z v a hd b rx (by rw [in1_units]; omega)
    rw [absD_eq I b a]
    exact this
  · refine ⟨.bl _, H, I, rfl, ?_⟩
    have e := any_vals (d := d) (absD X.K H) hr rv fun d v u a b => absD_eq I b a
    have e2 : (its.toArray.any fun u => eqD (absD X.K H u) d) = ds.any fun e => eqD e d := by rw [← e]; simp
    rw [e2]; exact q
theorem op_notInD (hu : X.A.units + 64 < cLine) : OpR X (compareOp .NotIn) (rInD X.K true) := by
  intro pins s σ H x y v u Q I rx ry h
  obtain ⟨d, p, xs, ds, hd, rfl, hq, hr, hz, q⟩ := h
  cases ry
  obtain ⟨its, rv, t, _⟩ := I.list hq
  refine notIn_listAt (fun u => eqD (absD X.K H u) d) t.isList (fun z hz' => ?_) ?_
  · obtain ⟨e, w', a, b, c⟩ := mem_rep hr rv z (by simpa using hz')
    have := eqAtD I e d X.A.in1 w' x z v a hd b rx (by rw [in1_units]; omega)
    rw [absD_eq I b a]
    exact this
  · refine ⟨.bl _, H, I, rfl, ?_⟩
    have e := any_vals (d := d) (absD X.K H) hr rv fun d v u a b => absD_eq I b a
    have e2 : (its.toArray.any fun u => eqD (absD X.K H u) d) = ds.any fun e => eqD e d := by rw [← e]; simp
    rw [e2]; exact q
end
end L3

/-! [e for x in xs], [e for x in xs if c]: the block runs in a context of its own; no exception leaves it. -/
namespace L3
open PySem PySem.Spec PyProof.Rows L2
def blk (X : Cx) (scope : Scope) (cl : List (Str × Addr)) (N' : List Str) (C : Addr) (s₀ : Shared) (H₀ : Hp) (ex : List Addr) (pn : List (Addr × Obj)) : Cx where
  prog := X.prog
  w := X.w
  K := X.K
  mg := X.mg
  base := X.base
  A := X.A
  N := N'
  s₀ := s₀
  H₀ := H₀
  env := compEnvC scope cl C X.env
  outer := X.stack
  stack := X.stack
  ex := ex
  fn := fun _ => false
  calm := X.calm
  pn := pn
  xe := fun _ _ => False
abbrev lobj (its : List Value) : Obj := { cls := .type "list", data := .seq its.toArray its.length }
section
variable {X : Cx} {pins : List (Addr × Obj)} {σ : L2.St} {H : Hp} {s : Shared}
def PF (X : Cx) (ifs : List Expr) (t : TT) : Prop := ∀ (pins : List (Addr × Obj)) (s : Shared) (σ : L2.St) (H : Hp) (Q : Bool → Hp → Prop), Inv X pins σ H s → t σ H Q →
  wpAny (model X.prog X.w) X.A (forIn ifs true fun c r => if r = true then do let ok ← isTrue c X.env (eval c X.env); pure (ForInStep.yield ok) else pure (ForInStep.yield r)) (TP X pins σ Q) X.xe s
def tTrue : TT := fun _ H Q => Q true H
theorem pf_nil : PF X [] tTrue := fun _ _ _ H _ I h => wpAny_tests_nil ⟨H, I, h⟩
theorem pf_one {c : Expr} {t : TT} (h : PT X c t) : PF X [c] t := fun pins s σ H Q I hq => wpAny_tests_one (h pins s σ H Q I hq)

theorem Inv.track {D : Addr} {ys : List V} {its : List Value} (I : Inv X pins σ H s) (hD : H D = none) (ho : s.heap.get? D = some (lobj its)) (hv : Vals ys its) (hz : ys.length ≤ sizeLine)
    (h1 : D ∈ X.ex ∨ X.s₀.heap.objs.size ≤ D) (h2 : D ≠ X.env.locals) (h3 : ∀ x c, X.env.cells.lookup x = some c → c ≠ D) (h4 : ∀ p ∈ X.pn ++ pins, p.1 ≠ D) : Inv X pins σ (upd H D (.lst ys)) s := by
  have old : ∀ b u, H b = some u → upd H D (.lst ys) b = some u := fun b u e => by rw [upd_ne (ne_of_none e hD)]; exact e
  refine I.step (g' := s.gens) (t' := s.toks) (d' := s.drawn) (h' := s.heap) (ch := [D]) (fun b hb => ?_) (fun b o _ _ _ e _ => e) (fun b o _ _ _ e _ => ⟨o.slots, e⟩) (fun b o hb _ n => ?_) (fun b o _ e => ⟨o, e⟩)
    (fun b xs e => old b _ e) (fun b o u e => old b _ e) (fun b ps e => ⟨#[], by rw [old b _ e]; simp⟩) (fun m hm => hm) (fun b u e => ?_) I.bare
  · have e : b = D := by simpa using hb
    subst e
    exact ⟨h1, h2, h3, h4⟩
  · rw [upd_ne (by simpa using hb)]; exact n
  · by_cases hb : b = D
    · subst hb
      rw [upd_same] at e; cases e
      exact ⟨hz, its, its.length, hv, ho⟩
    · rw [upd_ne hb] at e
      exact (I.hok b u e).stay (fun c v _ q => q) (fun c q => old c _ q) fun c xs q => old c _ q

def lend (js : List (Option Nat)) (σ : L2.St) : L2.St := js.map fun o => o.bind fun j => (σ[j]?).join
structure Blk (X : Cx) (scope : Scope) (cl : List (Str × Addr)) (N' : List Str) (js : List (Option Nat)) : Prop where
  clos : closureFor scope X.env = pure cl
  nocell : ∀ y ∈ scope.names, y.2 ≠ .cell
  kind : scope.kind = .function
  names : ∀ y ∈ scope.names, y.2 = .local → scope.names.lookup y.1 = some .local
  sub : ∀ y c, cl.lookup y = some c → X.env.cells.lookup y = some c
  has : ∀ y, ((relabel scope X.env).names.lookup y = some .cell ∨ (relabel scope X.env).names.lookup y = some .free) → ∃ c, cl.lookup y = some c
  len : js.length = N'.length
  lent : ∀ (i : Nat) y j, N'[i]? = some y → js[i]? = some (some j) → X.N[j]? = some y ∧ Vis X.env.scope y ∧ X.env.scope.names.lookup y ≠ some .local ∧ (relabel scope X.env).names.lookup y ≠ some .local

theorem blk_inv {scope : Scope} {cl : List (Str × Addr)} {N' : List Str} {js : List (Option Nat)} {fp : List Addr} {C : Addr} {h1 : Heap} {m : Str → Option Value} {tk : Nat} (B : Blk X scope cl N' js) (I : Inv X pins σ H s) (f : ∀ b ∈ fp, FpOk X pins H b)
    (fo : ∀ b ∈ fp, ∃ o, s.heap.get? b = some o) (old : ∀ b o, s.heap.get? b = some o → h1.get? b = some o) (hns : h1.Ns C m) (hC : s.heap.objs.size ≤ C) :
    Inv (blk X scope cl N' C s H fp (X.pn ++ pins)) [] (lend js σ) H { s with heap := h1, toks := tk } := by
  have ltC : ∀ b o, s.heap.get? b = some o → b ≠ C := fun b o e => Nat.ne_of_lt (Nat.lt_of_lt_of_le (Heap.lt_size e) hC)
  refine ⟨⟨I.ok.mod, B.kind, I.ok.glob, I.ok.blt, hC, fun y z c e1 e2 => I.ok.inj y z c (B.sub y c e1) (B.sub z c e2), fun y hy => B.has y hy, (fun y c e => nomatch e), I.ok.hd, I.ok.frames, .inl rfl, fun b hb => ?_, I.bs, ?_, fun b o e hb => ?_, fun b hb hs => ?_, I.stack, I.stkFree⟩,
    rfl, I.bare, Un.kept old, ⟨m, hns, fun i y v e1 e2 e3 => ?_⟩, fun y c e => ?_, I.hok.fresh hC, fun y c e => I.freeC y c (B.sub y c e), fun p hp => ?_, I.hok.kept old, ?_⟩
  · obtain ⟨o, e⟩ := fo b hb
    exact ⟨ltC b o e, fun y c q => (f b hb).2.2.2.2.1 y c (B.sub y c q)⟩
  · exact Nat.le_trans I.ok.bsz I.sz
  · rcases (f b hb).2.2.2.1 with z | z
    · exact I.ok.noex b o e z
    · exact absurd (Nat.lt_of_lt_of_le (Heap.lt_size (I.ok.bs b o e).1) z) (Nat.lt_irrefl _)
  · rcases List.mem_cons.mp (I.stkSub b hs) with z | z
    · exact (f b hb).2.1 z
    · exact (f b hb).2.2.1 z
  · have e2' : (lend js σ)[i]? = some (some v) := e2
    unfold lend at e2'
    rw [List.getElem?_map] at e2'
    cases ej : js[i]? with
    | none => rw [ej] at e2'; cases e2'
    | some o =>
      rw [ej] at e2'
      cases o with
      | none => cases e2'
      | some j =>
        obtain ⟨n1, n2, n3, n4⟩ := B.lent i y j e1 ej
        have es : σ[j]? = some (some v) := by
          cases q : σ[j]? with
          | none => rw [show (some (some j)).map _ = _ from rfl] at e2'; simp [q] at e2'
          | some z => simp [q] at e2'; rw [e2']
        obtain ⟨m0, hn0, hl0⟩ := I.loc
        obtain ⟨u, r, l⟩ := hl0 j y v n1 es n2
        refine ⟨u, r, ?_⟩
        rcases l with ⟨k, _⟩ | ⟨k, c, ec, z⟩
        · exact absurd k n3
        · have k' : (relabel scope X.env).names.lookup y = some .cell ∨ (relabel scope X.env).names.lookup y = some .free := by
            rcases e3 with q | q
            · exact absurd q n4
            · exact q
          obtain ⟨c', ec'⟩ := B.has y k'
          have := B.sub y c' ec'
          rw [ec] at this; cases this
          obtain ⟨oc, hoc, hd⟩ := z
          exact .inr ⟨k', c, ec', oc, old _ _ hoc, hd⟩
  · obtain ⟨v, oc, hoc, hd⟩ := I.cell y c (B.sub y c e)
    exact ⟨v, oc, old _ _ hoc, hd⟩
  · have hp' : p ∈ X.pn ++ pins := by simpa [blk] using hp
    obtain ⟨e, n, ne, nf, d⟩ := I.pin p hp'
    refine ⟨old _ _ e, n, ltC _ _ e, fun hs => ?_, d⟩
    rcases List.mem_cons.mp (I.stkSub p.1 hs) with z | z
    · exact ne z
    · exact nf z
  · show (lend js σ).length = N'.length
    unfold lend
    rw [List.length_map, B.len]

theorem codeAny_compLoop_any {prog : Program} {w : World} {A : Around} {R : Result → Shared → Prop} {s : Shared} {elt target iter : Expr} {ifs : List Expr} {scope : Scope} {pos : Pos} {it acc : Value} {env : Env} (I : Nat → Shared → Prop)
    (turn : ∀ n s, I n s → wpAny (model prog w) A (pyNext it) (fun r s₁ => match r with
      | none => R (.ok .next) s₁
      | some v => wpAny (model prog w) A (letOwnedTupleGo target it v) (fun _ s₁' => wpAny (model prog w) A (assign target env v) (fun _ s₂ =>
          wpAny (model prog w) A (forIn ifs true fun c r => if r = true then do let ok ← isTrue c env (eval c env); pure (ForInStep.yield ok) else pure (ForInStep.yield r)) (fun ok s₃ =>
            if ok = true then wpAny (model prog w) A (eval elt env) (fun x s₄ =>
              wpAny (model prog w) A (call (.builtin "list.append") [acc, x]) (fun _ s₅ => ∃ m, m < n ∧ I m s₅) (fun _ _ => False) s₄) (fun _ _ => False) s₃
            else ∃ m, m < n ∧ I m s₃) (fun _ _ => False) s₂) (fun _ _ => False) s₁') (fun _ _ => False) s₁) (fun _ _ => False) s)
    (n : Nat) (h : I n s) :
    codeAny (model prog w) A (.compLoop (.ListComp elt [⟨target, iter, ifs, 0⟩] scope pos) 0 it acc env) R s := by
  refine codeAny_loop rfl I (fun n s hI => ?_) n h
  show wpAny _ A ((compTurn (.ListComp elt [⟨target, iter, ifs, 0⟩] scope pos) 0 it acc env).onRaise (fun x => do noteFrame x env; theTreesLotGoes x)) _ _ s
  refine wpAny_noted ?_
  rw [compTurn_list]
  refine wpAny_bind (wpAny_standAt (wpAny_bind (wpAny_mono (turn n s hI) (fun r s₁ h₁ => ?_) fun _ _ f => f.elim)))
  cases r with
  | none => exact wpAny_pure h₁
  | some v =>
    refine wpAny_bind (wpAny_mono h₁ (fun _ s₁' h₁' => ?_) fun _ _ f => f.elim)
    refine wpAny_bind (wpAny_mono h₁' (fun _ s₂ h₂ => wpAny_bind (wpAny_mono h₂ (fun ok s₃ h₃ => ?_) fun _ _ f => f.elim)) fun _ _ f => f.elim)
    cases ok with
    | false => exact wpAny_pure ⟨rfl, h₃⟩
    | true =>
      exact wpAny_bind (wpAny_bind (wpAny_mono h₃ (fun x s₄ h₄ => wpAny_bind (wpAny_mono h₄ (fun _ s₅ h₅ => wpAny_pure (wpAny_pure ⟨rfl, h₅⟩)) fun _ _ f => f.elim)) fun _ _ f => f.elim))

def CompGo (J : It) (g : TG) (tf : TT) (te : TE) (Q : VK) (τ0 : L2.St) (H1 : Hp) : Prop := ∃ W : Nat → Nat → List V → L2.St → Hp → Prop, (∃ m, W 0 m [] τ0 H1) ∧ ∀ i m ys τ H, W i m ys τ H →
  (J.stop i H ∧ ∀ p, H p = none → Q (.ref p) (upd H p (.lst ys))) ∨ (J.go i H ∧ ∃ Nx : List V → L2.St → Hp → Prop, (∀ ys' τ' H', Nx ys' τ' H' → ∃ m', m' < m ∧ W (i + 1) m' ys' τ' H') ∧
    ∀ v H', J.yld i H v H' → g v τ H' fun τ2 H2 => tf τ2 H2 fun b H3 => if b = true then te τ2 H3 fun y H4 => ys.length < sizeLine ∧ Nx (ys ++ [y]) τ2 H4 else Nx ys τ2 H3)
def tComp (js : List (Option Nat)) (wi : TI) (g : TG) (tf : TT) (te : TE) : TE := fun σ H Q => wi σ H fun J H1 => CompGo J g tf te Q (lend js σ) H1
theorem comp_core {elt iter tg : Expr} {ifs : List Expr} {scope : Scope} {pos : Pos} {cl : List (Str × Addr)} {N' : List Str} {js : List (Option Nat)} {g : TG} {tf : TT} {te : TE} {RR : Value → Addr → Result → Shared → Prop} {Qv : VK} {E : Value → Shared → Prop} {it : Addr} {fp : List Addr} {tn : Nat → Heap → Prop} {J : It} {H2 : Hp} {s2 : Shared}
    (hc : X.calm = true) (B : Blk X scope cl N' js) (hg : ∀ C s₀ H₀ ex pn, PG (blk X scope cl N' C s₀ H₀ ex pn) tg g) (hf : ∀ C s₀ H₀ ex pn, PF (blk X scope cl N' C s₀ H₀ ex pn) ifs tf) (he : ∀ C s₀ H₀ ex pn, PE (blk X scope cl N' C s₀ H₀ ex pn) elt te)
    (I2 : Inv X pins σ H2 s2) (T : Turn X.prog X.w X.K tg J fp it tn) (st2 : tn 0 s2.heap) (f2 : ∀ b ∈ fp, FpOk X pins H2 b) (cg : CompGo J g tf te Qv (lend js σ) H2)
    (fin : ∀ (Dd Cc : Addr) (m : Str → Option Value) (s4 : Shared) (Hx : Hp), Inv X pins σ Hx s4 → Qv (.ref Dd) Hx → s4.heap.Ns Cc m → Hx Cc = none → Cc ≠ X.env.locals → X.s₀.heap.objs.size ≤ Cc → (∀ x c, X.env.cells.lookup x = some c → c ≠ Cc) → (∀ p ∈ X.pn ++ pins, p.1 ≠ Cc) →
      RR (.ref Dd) Cc (.ok .next) s4) :
    wpAny (model X.prog X.w) X.A (newList []) (fun acc s₃ => wpAny (model X.prog X.w) X.A (newFunctionEnv scope X.env.globals cl [] X.env.qual none .none (some X.env)) (fun cenv s₄ =>
      codeAny (model X.prog X.w) X.A (.compStart (.ListComp elt [⟨tg, iter, ifs, 0⟩] scope pos) 0 (.ref it) acc { cenv with scope := relabel scope X.env }) (RR acc cenv.locals) s₄) E s₃) E s2 := by
  obtain ⟨W, ⟨m0, w0⟩, turn⟩ := cg
  refine wpAny_newObj_type (wpAny_newFunctionEnv B.nocell (by intro y hy; simp at hy) (fun h₁ hns₁ hsb₁ => ?_) B.kind)
  dsimp only at hns₁ hsb₁ ⊢
  generalize hG : s2.heap.push { cls := .type "list", dict := none, data := .seq ([] : List Value).toArray } = G at hns₁ hsb₁ ⊢
  have hC : G.objs.size = s2.heap.objs.size + 1 := by rw [← hG, Heap.size_push]
  have hDC : s2.heap.objs.size ≠ G.objs.size := by rw [hC]; exact Nat.ne_of_lt (Nat.lt_succ_self _)
  have below : ∀ b, b < s2.heap.objs.size → b ≠ G.objs.size ∧ b ≠ s2.heap.objs.size := fun b hb => ⟨by rw [hC]; exact Nat.ne_of_lt (Nat.lt_succ_of_lt hb), Nat.ne_of_lt hb⟩
  have old : ∀ b o, s2.heap.get? b = some o → h₁.get? b = some o := fun b o e => hsb₁.extBut b o (below b (Heap.lt_size e)).1 (Heap.get?_push_of_some _ (hG ▸ Heap.get?_push_of_some _ e))
  have hacc : h₁.get? s2.heap.objs.size = some (lobj []) := hsb₁.extBut _ _ hDC (Heap.get?_push_of_some _ (hG ▸ Heap.get?_push_size _ rfl))
  have fo : ∀ b ∈ fp, ∃ o, s2.heap.get? b = some o := fun b hb => let ⟨o, e, _⟩ := T.obj 0 _ st2 b hb; ⟨o, e⟩
  have I4 := blk_inv (tk := s2.toks + ([] : List (Str × Value)).length) B I2 f2 fo old hns₁ (by rw [hC]; exact Nat.le_succ _)
  generalize hD : s2.heap.objs.size = Dd at *
  generalize hCC : G.objs.size = Cc at *
  have st4 : tn 0 h₁ := T.keep 0 _ _ st2 fun b _ o e => old b o e
  have fpne : ∀ b ∈ fp, b ≠ Dd := fun b hb => let ⟨o, e⟩ := fo b hb; by rw [← hD]; exact Nat.ne_of_lt (Heap.lt_size e)
  have hDfree : H2 Dd = none := I2.hok.fresh (by rw [hD]; exact Nat.le_refl _)
  have hDfs : Dd ∉ frs X.stack := fun hb => by
    rcases List.mem_cons.mp (I2.stkSub _ hb) with z | z
    · have := I2.lt; rw [← z, hD] at this; exact Nat.lt_irrefl _ this
    · exact I2.nofs (a := Dd) (by rw [hD]; exact Nat.le_refl _) z
  have hDcell : ∀ x c, X.env.cells.lookup x = some c → c ≠ Dd := fun x c e z => by
    obtain ⟨v, q⟩ := I2.cell x c e
    have := q.lt
    rw [z, ← hD] at this; exact Nat.lt_irrefl _ this
  have hDpin : ∀ p ∈ X.pn ++ pins, p.1 ≠ Dd := fun p hp z => by
    have := Heap.lt_size (I2.pin p hp).1
    rw [z, ← hD] at this; exact Nat.lt_irrefl _ this
  -- the block's context
  generalize hXb : blk X scope cl N' Cc s2 H2 fp (X.pn ++ pins) = Xb at I4
  have xP : Xb.prog = X.prog := by rw [← hXb]; rfl
  have xW : Xb.w = X.w := by rw [← hXb]; rfl
  have xK : Xb.K = X.K := by rw [← hXb]; rfl
  have xA : Xb.A = X.A := by rw [← hXb]; rfl
  have xC : Xb.calm = true := by rw [← hXb]; exact hc
  have xL : Xb.env.locals = Cc := by rw [← hXb]; rfl
  have xFs : Xb.fs = frs X.stack := by rw [← hXb]; rfl
  have xEx : Xb.ex = fp := by rw [← hXb]; rfl
  have xPn : Xb.pn = X.pn ++ pins := by rw [← hXb]; rfl
  have xS : Xb.s₀ = s2 := by rw [← hXb]; rfl
  have xH : Xb.H₀ = H2 := by rw [← hXb]; rfl
  have xCl : ∀ y c, Xb.env.cells.lookup y = some c → X.env.cells.lookup y = some c := by rw [← hXb]; exact B.sub
  have xE : Xb.env = compEnvC scope cl Cc X.env := by rw [← hXb]; rfl
  have xX : Xb.xe = fun _ _ => False := by rw [← hXb]; rfl
  have hg' : PG Xb tg g := by rw [← hXb]; exact hg _ _ _ _ _
  have hf' : PF Xb ifs tf := by rw [← hXb]; exact hf _ _ _ _ _
  have he' : PE Xb elt te := by rw [← hXb]; exact he _ _ _ _ _
  have fok : ∀ {H' : Hp} {o : Obj}, (∀ b ∈ fp, H' b = none) → ∀ b ∈ fp, FpOk Xb [(Dd, o)] H' b := fun {H' o} hn b hb => by
    obtain ⟨o', e'⟩ := fo b hb
    refine ⟨hn b hb, ?_, ?_, .inl (by rw [xEx]; exact hb), fun y c q => (f2 b hb).2.2.2.2.1 y c (xCl y c q), fun p hp => ?_⟩
    · rw [xL]; exact (below b (by have := Heap.lt_size e'; rw [hD] at this; exact this)).1
    · rw [xFs]
      intro hs
      rcases List.mem_cons.mp (I2.stkSub b hs) with z | z
      · exact (f2 b hb).2.1 z
      · exact (f2 b hb).2.2.1 z
    · rw [xPn] at hp
      rcases List.mem_append.mp hp with z | z
      · exact (f2 b hb).2.2.2.2.2 p z
      · rw [List.mem_singleton.mp z]; exact (fpne b hb).symm
  have hDC' : Dd ≠ Cc := by rw [← hD, ← hCC]; rw [← hCC, ← hD] at hDC; exact hDC
  have loop : codeAny (model X.prog X.w) X.A (.compLoop (.ListComp elt [⟨tg, iter, ifs, 0⟩] scope pos) 0 (.ref it) (.ref Dd) (compEnvC scope cl Cc X.env)) (RR (.ref Dd) Cc)
      { s2 with heap := h₁, toks := s2.toks + ([] : List (Str × Value)).length } := by
    refine codeAny_compLoop_any (fun n s' => ∃ i ys τ H' its, Inv Xb [(Dd, lobj its)] τ H' s' ∧ tn i s'.heap ∧ (∀ b ∈ fp, H' b = none) ∧ Vals ys its ∧ ys.length ≤ sizeLine ∧ W i n ys τ H') ?_ m0
      ⟨0, [], _, H2, [], I4.pins_of (fun p hp => ?_), st4, fun b hb => (f2 b hb).1, .nil, Nat.zero_le _, w0⟩
    · rintro n s3 ⟨i, ys, τ, H3, its, I3, st3, fr3, hv, hz, w3⟩
      have pD := I3.pin (Dd, lobj its) (List.mem_append_right _ (List.mem_singleton.mpr rfl))
      rcases turn i n ys τ H3 w3 with ⟨stop, qn⟩ | ⟨go, Nx, hN, step⟩
      · have hd := T.done Xb xP xW xK xC i [(Dd, lobj its)] s3 τ H3 (fun _ _ => False) I3 (fok fr3) st3 stop
        rw [xA] at hd
        refine thn hd fun r s4 ⟨hr, I5⟩ => ?_
        subst hr
        obtain ⟨m, hn, _⟩ := id I5.loc
        rw [xL] at hn
        have pD5 := I5.pin (Dd, lobj its) (List.mem_append_right _ (List.mem_singleton.mpr rfl))
        have ub := I5.base
        rw [xFs, xEx, xS, xH] at ub
        have hfC : H3 Cc = none := by have := I5.free; rw [xL] at this; exact this
        have ok5 : HOk X.prog X.w H3 s4.heap := by have := I5.hok; rw [xP, xW] at this; exact this
        have IX : Inv X pins σ H3 s4 := I2.call' (s' := s4) (by rw [I5.os, xS]) ub ok5 I5.bare fun b hb => ⟨(f2 b hb).2.2.2.1, (f2 b hb).2.1, (f2 b hb).2.2.2.2.1, (f2 b hb).2.2.2.2.2⟩
        have hlo : X.s₀.heap.objs.size ≤ Dd := by rw [← hD]; exact I2.sz
        have hloL : Dd ≠ X.env.locals := fun z => by have := I2.lt; rw [← z, hD] at this; exact Nat.lt_irrefl _ this
        have hCD : Dd ≤ Cc := by omega
        refine fin Dd Cc m s4 (upd H3 Dd (.lst ys)) (L3.Inv.track IX pD5.2.1 pD5.1 hv hz (.inr hlo) hloL hDcell hDpin) (qn Dd pD5.2.1) hn (by rw [upd_ne hDC'.symm]; exact hfC) ?_ (Nat.le_trans hlo hCD) ?_ ?_
        · intro z; have := I2.lt; rw [← z, hD] at this; exact Nat.lt_irrefl _ (Nat.lt_of_lt_of_le this hCD)
        · intro x c e z
          obtain ⟨v, q⟩ := I2.cell x c e
          have := q.lt
          rw [z, hD] at this; exact Nat.lt_irrefl _ (Nat.lt_of_lt_of_le this hCD)
        · intro p hp z
          have := Heap.lt_size (I2.pin p hp).1
          rw [z, hD] at this; exact Nat.lt_irrefl _ (Nat.lt_of_lt_of_le this hCD)
      · have hit := T.item Xb xP xW xK xC i [(Dd, lobj its)] s3 τ H3 (fun _ _ => False) I3 (fok fr3) st3 go
        rw [xA] at hit
        refine thn hit fun r s4 ⟨u, hr, h4⟩ => ?_
        subst hr
        refine thn h4 fun _ s5 ⟨x, H5, I5, r5, y5, st5, fr5⟩ => ?_
        have I5' := I5.pinned (fok fr5) (T.obj _ _ st5)
        have ga := hg' _ s5 τ H5 x u _ I5' r5 (step x H5 y5)
        rw [xP, xW, xA, xE, xX] at ga
        refine thn ga fun _ s6 ⟨τ6, H6, I6, q6⟩ => ?_
        have fa := hf' _ s6 τ6 H6 _ I6 q6
        rw [xP, xW, xA, xE, xX] at fa
        refine thn fa fun ok s7 ⟨H7, I7, q7⟩ => ?_
        have back : ∀ {τ8 : L2.St} {H8 : Hp} {s8 : Shared}, Inv Xb ([(Dd, lobj its)] ++ pinsAt fp s5.heap) τ8 H8 s8 → tn (i + 1) s8.heap ∧ (∀ b ∈ fp, H8 b = none) := fun {τ8 H8 s8} I8 =>
          ⟨T.keep _ _ _ st5 fun b hb o e => (I8.pin (b, o) (List.mem_append_right _ (List.mem_append_right _ (mem_pinsAt hb e)))).1, fun b hb => by
            obtain ⟨o, e, d⟩ := T.obj _ _ st5 b hb
            exact (I8.pin (b, o) (List.mem_append_right _ (List.mem_append_right _ (mem_pinsAt hb e)))).2.1⟩
        cases ok with
        | false =>
          rw [if_neg (by simp)] at q7 ⊢
          obtain ⟨m', hm, w7⟩ := hN _ _ _ q7
          obtain ⟨b1, b2⟩ := back I7
          exact ⟨m', hm, i + 1, ys, τ6, H7, its, I7.unpinned, b1, b2, hv, hz, w7⟩
        | true =>
          rw [if_pos rfl] at q7 ⊢
          have ea := he' _ s7 τ6 H7 _ I7 q7
          rw [xP, xW, xA, xE, xX] at ea
          refine thn ea fun yv s8 ⟨y, H8, I8, r8, hlt, n8⟩ => ?_
          have pD8 := I8.pin (Dd, lobj its) (List.mem_append_right _ (List.mem_append_left _ (List.mem_singleton.mpr rfl)))
          have hil : its.length = ys.length := hv.length.symm
          refine append_at (hsz := by rw [List.size_toArray]; omega) pD8.1 fun h' hs' ho' => ?_
          obtain ⟨m', hm, w8⟩ := hN _ _ _ n8
          obtain ⟨b1, b2⟩ := back I8
          have J1 : Inv Xb [] τ6 H8 s8 := I8.pins_of (fun p hp => nomatch hp)
          have J2 : Inv Xb [] τ6 H8 { s8 with heap := h' } := J1.turned (t' := s8.toks) (it := Dd) (fun b o hb e => (hs'.2 b hb).trans e) pD8.2.1 pD8.2.2.1 (.inr (by rw [xS, hD]; exact Nat.le_refl _)) (fun y c q => hDcell y c (xCl y c q)) fun p hp => by
            rw [xPn, List.append_nil] at hp
            exact hDpin p hp
          refine ⟨m', hm, i + 1, ys ++ [y], τ6, H8, its ++ [yv], J2.pins_of fun p hp => ?_, T.keep _ _ _ b1 fun b hb o e => (hs'.2 b (fpne b hb)).trans e, b2, hv.append (.cons r8 .nil), by rw [List.length_append, List.length_singleton]; omega, w8⟩
          rw [List.mem_singleton.mp hp]
          refine ⟨?_, pD8.2.1, pD8.2.2.1, pD8.2.2.2.1, fun v z => nomatch z⟩
          show h'.get? Dd = some (lobj (its ++ [yv]))
          rw [ho']
          show some ({ cls := .type "list", data := .seq (its.toArray.push yv) (its.length + 1) } : Obj) = some { cls := .type "list", data := .seq (its ++ [yv]).toArray (its ++ [yv]).length }
          rw [List.length_append, List.length_singleton, List.push_toArray]
    · rw [List.mem_singleton.mp hp]
      refine ⟨hacc, hDfree, ?_, ?_, fun v z => nomatch z⟩
      · rw [xL]; rw [← hCC, ← hD]; rw [← hCC, ← hD] at hDC; exact hDC
      · rw [xFs]; exact hDfs
  exact codeAny_compStart_list loop (T.self X.A 0 _ _ _ st4 loop)

theorem pe_comp {elt iter tg : Expr} {ifs : List Expr} {scope : Scope} {pos : Pos} {cl : List (Str × Addr)} {N' : List Str} {js : List (Option Nat)} {wi : TI} {g : TG} {tf : TT} {te : TE} (hc : X.calm = true) (B : Blk X scope cl N' js) (hi : PI X tg iter wi)
    (hg : ∀ C s₀ H₀ ex pn, PG (blk X scope cl N' C s₀ H₀ ex pn) tg g) (hf : ∀ C s₀ H₀ ex pn, PF (blk X scope cl N' C s₀ H₀ ex pn) ifs tf) (he : ∀ C s₀ H₀ ex pn, PE (blk X scope cl N' C s₀ H₀ ex pn) elt te)
    (hs : ∀ x, foldedSetIterable iter X.env x = pure x := by intro _; rfl) : PE X (.ListComp elt [⟨tg, iter, ifs, 0⟩] scope pos) (tComp js wi g tf te) := by
  intro pins s σ H Q I h
  rw [eval_ListComp]
  refine wpAny_comprehension_free (use := none) rfl hs B.clos B.kind B.names (thn (hi pins s σ H _ I h) fun xv s1 h1 => thn h1 fun itv s2 h2 => ?_)
  obtain ⟨it, fp, tn, J, H2, e, I2, T, st2, f2, cg⟩ := h2
  subst e
  refine comp_core (RR := fun acc C => compPost (model X.prog X.w) X.A X.xe none (EP X pins σ Q) acc C) hc B hg hf he I2 T st2 f2 cg ?_
  intro Dd Cc m s4 Hx IX q hn hC cL cS cC cP
  refine ⟨m, hn, fun h' hs' => ⟨.ref Dd, Hx, ?_, rfl, q⟩⟩
  exact IX.turned (t' := s4.toks) (it := Cc) (fun b o hb e => (hs'.2 b hb).trans e) hC cL (.inr cS) cC cP
end
/-! ### a block from checks -/
def capt (env : Env) : List (Str × NameKind) → List (Str × Addr) → List (Str × Addr)
  | [], acc => acc
  | (n, k) :: r, acc => capt env r (if k == .free then (match env.cells.lookup n with | some c => (n, c) :: acc | none => acc) else acc)
theorem lookup_cons' {n y : Str} {c : Addr} {acc : List (Str × Addr)} : ((n, c) :: acc).lookup y = if y == n then some c else acc.lookup y := by
  rw [List.lookup_cons]; cases y == n <;> rfl
theorem capt_sub {env : Env} : ∀ (names : List (Str × NameKind)) (acc : List (Str × Addr)), (∀ y c, acc.lookup y = some c → env.cells.lookup y = some c) → ∀ y c, (capt env names acc).lookup y = some c → env.cells.lookup y = some c
  | [], acc, h, y, c, e => h y c e
  | (n, k) :: r, acc, h, y, c, e => by
    unfold capt at e
    refine capt_sub r _ (fun y c q => ?_) y c e
    split at q
    · split at q
      · rename_i c' hc
        rw [lookup_cons'] at q
        split at q
        · rename_i hy
          cases q
          rw [eq_of_beq hy]; exact hc
        · exact h y c q
      · exact h y c q
    · exact h y c q
theorem capt_keep {env : Env} {y : Str} : ∀ (names : List (Str × NameKind)) (acc : List (Str × Addr)), (∃ c, acc.lookup y = some c) → ∃ c, (capt env names acc).lookup y = some c
  | [], acc, h => h
  | (n, k) :: r, acc, h => by
    unfold capt
    refine capt_keep r _ ?_
    split
    · split
      · rw [lookup_cons']
        split
        · exact ⟨_, rfl⟩
        · exact h
      · exact h
    · exact h
theorem capt_has {env : Env} {y : Str} (hy : (env.cells.lookup y).isSome = true) : ∀ (names : List (Str × NameKind)) (acc : List (Str × Addr)), (y, NameKind.free) ∈ names → ∃ c, (capt env names acc).lookup y = some c
  | (n, k) :: r, acc, h => by
    unfold capt
    rcases List.mem_cons.mp h with z | z
    · cases z
      refine capt_keep r _ ?_
      obtain ⟨c, hc⟩ := Option.isSome_iff_exists.mp hy
      rw [if_pos (by rfl), hc]
      exact ⟨c, by rw [lookup_cons', if_pos (beq_self_eq_true y)]⟩
    · exact capt_has hy r _ z
theorem relabel_free {scope : Scope} {env : Env} {y : Str} (h0 : ∀ z ∈ scope.names, z.2 ≠ .cell) (h : (relabel scope env).names.lookup y = some .cell ∨ (relabel scope env).names.lookup y = some .free) : (y, NameKind.free) ∈ scope.names := by
  have mem : ∃ k, (k = NameKind.cell ∨ k = NameKind.free) ∧ (y, k) ∈ (relabel scope env).names := by
    rcases h with h | h
    · exact ⟨_, .inl rfl, PySem.mem_of_lookup h⟩
    · exact ⟨_, .inr rfl, PySem.mem_of_lookup h⟩
  obtain ⟨k, hk, hm⟩ := mem
  unfold relabel at hm
  obtain ⟨⟨n, k'⟩, hm', e⟩ := List.mem_map.mp hm
  simp only at e
  split at e
  · rename_i hc
    cases e
    have : k' = .free := by
      simp only [Bool.and_eq_true, beq_iff_eq] at hc
      exact hc.1.1
    rw [← this]; exact hm'
  · cases e
    rcases hk with rfl | rfl
    · exact absurd rfl (h0 _ hm')
    · exact hm'
def chkFree (scope : Scope) (env : Env) : Bool := scope.names.all fun y => y.2 != .free || (env.cells.lookup y.1).isSome
def chkLent (X : Cx) (scope : Scope) : List Str → List (Option Nat) → Bool
  | [], [] => true
  | y :: N, o :: js => (match o with
    | none => true
    | some j => X.N[j]? == some y && (X.env.scope.names.lookup y == some .cell || X.env.scope.names.lookup y == some .free) && (relabel scope X.env).names.lookup y != some .local) && chkLent X scope N js
  | _, _ => false
theorem chkLent_at {X : Cx} {scope : Scope} : ∀ {N : List Str} {js : List (Option Nat)}, chkLent X scope N js = true → js.length = N.length ∧ ∀ (i : Nat) y j, N[i]? = some y → js[i]? = some (some j) → X.N[j]? = some y ∧ Vis X.env.scope y ∧ X.env.scope.names.lookup y ≠ some .local ∧ (relabel scope X.env).names.lookup y ≠ some .local
  | [], [], _ => ⟨rfl, fun i y j h => by simp at h⟩
  | [], _ :: _, h => by simp [chkLent] at h
  | _ :: _, [], h => by simp [chkLent] at h
  | z :: N, o :: js, h => by
    unfold chkLent at h
    rw [Bool.and_eq_true] at h
    obtain ⟨l, t⟩ := chkLent_at h.2
    refine ⟨by rw [List.length_cons, List.length_cons, l], fun i y j h1 h2 => ?_⟩
    cases i with
    | zero =>
      simp at h1 h2
      subst h1 h2
      have h' := h.1
      simp only [Bool.and_eq_true, Bool.or_eq_true, beq_iff_eq, bne_iff_ne] at h'
      refine ⟨h'.1.1, ?_, ?_, h'.2⟩
      · rcases h'.1.2 with q | q
        · exact .inr (.inl q)
        · exact .inr (.inr q)
      · rcases h'.1.2 with q | q <;> rw [q] <;> decide
    | succ i => exact t i y j (by simpa using h1) (by simpa using h2)
theorem blk_mk {X : Cx} {scope : Scope} {N' : List Str} {js : List (Option Nat)} (clos : closureFor scope X.env = pure (capt X.env scope.names [])) (nocell : ∀ y ∈ scope.names, y.2 ≠ .cell) (kind : scope.kind = .function)
    (names : ∀ y ∈ scope.names, y.2 = .local → scope.names.lookup y.1 = some .local) (free : chkFree scope X.env = true) (lent : chkLent X scope N' js = true) : Blk X scope (capt X.env scope.names []) N' js where
  clos := clos
  nocell := nocell
  kind := kind
  names := names
  sub := capt_sub _ _ fun y c e => nomatch e
  has := fun y h => by
    have hm := relabel_free nocell h
    have hf := List.all_eq_true.mp free _ hm
    exact capt_has (by simpa using hf) _ _ hm
  len := (chkLent_at lent).1
  lent := (chkLent_at lent).2
theorem comp_list {K : PySem.W.Frag} {a : Addr} {xs : List V} {g : TG} {tf : TT} {te : TE} {τ : L2.St} {H : Hp} {Q : VK} (Pv : Nat → List V → L2.St → Hp → Prop) (h0 : Pv 0 [] τ H) (hl : ∀ i ys τ H, Pv i ys τ H → SqL K H a xs)
    (hs : ∀ i x ys τ H, xs[i]? = some x → Pv i ys τ H → g x τ H fun τ2 H2 => tf τ2 H2 fun b H3 => if b = true then te τ2 H3 fun y H4 => ys.length < sizeLine ∧ Pv (i + 1) (ys ++ [y]) τ2 H4 else Pv (i + 1) ys τ2 H3)
    (hd : ∀ ys τ H, Pv xs.length ys τ H → ∀ p, H p = none → Q (.ref p) (upd H p (.lst ys))) :
    CompGo (Itl K a) g tf te Q τ H := by
  refine ⟨fun i m ys τ H => m = xs.length - i ∧ i ≤ xs.length ∧ Pv i ys τ H, ⟨xs.length, by simp, Nat.zero_le _, h0⟩, ?_⟩
  rintro i m ys τ H ⟨rfl, hi, p⟩
  have q := hl i ys τ H p
  by_cases hlt : i < xs.length
  · refine .inr ⟨⟨xs, xs[i], q, by simp [hlt]⟩, Pv (i + 1), fun ys' τ' H' p' => ⟨xs.length - (i + 1), by omega, rfl, hlt, p'⟩, fun x H' y => ?_⟩
    obtain ⟨e, y⟩ := y
    subst e
    exact hs i x ys τ _ (y xs q) p
  · have e : i = xs.length := by omega
    subst e
    exact .inl ⟨⟨xs, q, Nat.le_refl _⟩, hd ys τ H p⟩
end L3

/-! min and max of a list of texts. -/
namespace L3
open PySem PySem.Spec PyProof.Rows L2
theorem best_min (f : Nat → List Nat) : ∀ k i, i ≤ k → ¬ f i < f (argBest (fun i j => decide (f i < f j)) k)
  | 0, i, h => by
    have : i = 0 := by omega
    subst this
    exact List.lt_irrefl _
  | k + 1, i, h => by
    have ih := best_min f k
    unfold argBest
    by_cases c : f (k + 1) < f (argBest (fun i j => decide (f i < f j)) k)
    · rw [if_pos (decide_eq_true c)]
      by_cases e : i = k + 1
      · subst e; exact List.lt_irrefl _
      · exact fun l => ih i (by omega) (List.lt_trans l c)
    · rw [if_neg (by simpa using c)]
      by_cases e : i = k + 1
      · subst e; exact c
      · exact ih i (by omega)
theorem best_max (f : Nat → List Nat) : ∀ k i, i ≤ k → ¬ f (argBest (fun i j => decide (f j < f i)) k) < f i
  | 0, i, h => by
    have : i = 0 := by omega
    subst this
    exact List.lt_irrefl _
  | k + 1, i, h => by
    have ih := best_max f k
    unfold argBest
    by_cases c : f (argBest (fun i j => decide (f j < f i)) k) < f (k + 1)
    · rw [if_pos (decide_eq_true c)]
      by_cases e : i = k + 1
      · subst e; exact List.lt_irrefl _
      · exact fun l => ih i (by omega) (List.lt_trans c l)
    · rw [if_neg (by simpa using c)]
      by_cases e : i = k + 1
      · subst e; exact c
      · exact ih i (by omega)
section
variable {prog : Program} {w : World} {A : Around} {E : Value → Shared → Prop} {s : Shared} {l : Addr} {xs : Array Value}
theorem iter_anyList {Q : Value → Shared → Prop} (hl : s.heap.IsList l xs)
    (h : ∀ s₂ : Shared, s₂ = { s with heap := s.heap.push { cls := .type "list_iterator", data := .fields #[.ref l, .int 0 0] } } →
      (s₂.heap.IsListIter s.heap.objs.size l 0 ∧ s₂.heap.IsList l xs) → (∀ b ∈ [s.heap.objs.size, l], b < s₂.heap.objs.size) → l ≠ s.heap.objs.size → Q (.ref s.heap.objs.size) s₂) :
    wpAny (model prog w) A (pyIter (.ref l)) Q E s := by
  have hlt : l < s.heap.objs.size := by obtain ⟨_, e, _⟩ := hl; exact Heap.lt_size e
  refine wpAny_pyIter_list hl (h _ rfl ⟨⟨_, Heap.get?_push_size _ rfl, rfl, rfl⟩, hl.push _⟩ (fun b hb => ?_) (Nat.ne_of_lt hlt))
  show b < (s.heap.push _).objs.size
  rw [Heap.size_push]
  rcases List.mem_cons.mp hb with rfl | hb
  · exact Nat.lt_succ_self _
  · rcases List.mem_cons.mp hb with rfl | hb
    · exact Nat.lt_succ_of_lt hlt
    · cases hb
end
section
variable {X : Cx}
end
end L3

/-! xs[::-1] of a list. -/
namespace L3
open PySem PySem.Spec PyProof.Rows L2
section
variable {X : Cx} {e st : Expr} {te ts : TE} {pos p2 : Pos}
end
end L3

/-! The table of a set: where a hash is looked for, and that the first free place is found. -/
namespace ST
open PySem PySem.SetTable
def it : Nat → Nat → Nat
  | 0, x => x
  | n + 1, x => it n (5 * x + 1)
theorem it_add : ∀ m n x, it (m + n) x = it n (it m x)
  | 0, n, x => by rw [Nat.zero_add]; rfl
  | m + 1, n, x => by rw [Nat.succ_add]; exact it_add m n (5 * x + 1)
theorem it_pow (k : Nat) : ∃ a, a % 2 = 1 ∧ ∀ y, it (2 ^ k) y = y + 2 ^ k * a * (4 * y + 1) := by
  induction k with
  | zero => exact ⟨1, rfl, fun y => by show 5 * y + 1 = y + 1 * 1 * (4 * y + 1); omega⟩
  | succ k ih =>
    obtain ⟨a, ha, h⟩ := ih
    refine ⟨a * (1 + 2 ^ (k + 1) * a), ?_, fun y => ?_⟩
    · rw [Nat.mul_mod, ha, Nat.pow_succ, Nat.mul_comm (2 ^ k) 2, Nat.mul_assoc]
      omega
    · rw [Nat.pow_succ, Nat.mul_two, it_add, h, h]
      grind
theorem reach_mod (k : Nat) : ∀ x j, j < 2 ^ k → ∃ n, n < 2 ^ k ∧ it n x % 2 ^ k = j := by
  induction k with
  | zero => intro x j h; exact ⟨0, by decide, by simp at h; subst h; simp [Nat.mod_one]⟩
  | succ k ih =>
    intro x j h
    have hp : 0 < 2 ^ k := Nat.two_pow_pos k
    have e : 2 ^ (k + 1) = 2 ^ k * 2 := Nat.pow_succ ..
    obtain ⟨n, hn, hx⟩ := ih x (j % 2 ^ k) (Nat.mod_lt _ hp)
    obtain ⟨a, ha, hi⟩ := it_pow k
    rw [e] at h ⊢
    generalize 2 ^ k = N at *
    have small : ∀ r, r < N * 2 → r % N = if r < N then r else r - N := fun r hr => by
      split
      · exact Nat.mod_eq_of_lt ‹_›
      · rw [Nat.mod_eq_sub_mod (by omega), Nat.mod_eq_of_lt (by omega)]
    have r0 : it n x % (N * 2) < N * 2 := Nat.mod_lt _ (by omega)
    have r1 : it n x % (N * 2) % N = j % N := by rw [Nat.mod_mod_of_dvd _ ⟨2, rfl⟩]; exact hx
    rw [small _ r0, small _ h] at r1
    by_cases c : it n x % (N * 2) = j
    · exact ⟨n, by omega, c⟩
    · refine ⟨n + N, by omega, ?_⟩
      have odd : ∃ b, a * (4 * it n x + 1) = 2 * b + 1 := by
        obtain ⟨c', rfl⟩ : ∃ c', a = 2 * c' + 1 := ⟨a / 2, by omega⟩
        exact ⟨c' * (4 * it n x + 1) + 2 * it n x, by grind⟩
      obtain ⟨b, hb⟩ := odd
      have e2 : it (n + N) x = it n x + N + N * 2 * b := by
        rw [it_add, hi, Nat.mul_assoc, hb]; grind
      rw [e2, Nat.add_mul_mod_self_left, Nat.add_mod, Nat.mod_eq_of_lt (show N < N * 2 by omega)]
      generalize it n x % (N * 2) = r at *
      split at r1 <;> split at r1
      · omega
      · have : j = r + N := by omega
        rw [this, Nat.mod_eq_of_lt (by omega)]
      · have : r = j + N := by omega
        rw [this, show j + N + N = j + N * 2 by omega, Nat.add_mod_right, Nat.mod_eq_of_lt h]
      · omega

/-! ### the places that are looked at -/
def adv (mask : Nat) (p : Probe) : Probe :=
  if p.more > 0 then { p with j := p.j + 1, more := p.more - 1 } else
  { p with j := (leap mask p.i p.perturb).1, more := runEnd mask (leap mask p.i p.perturb).1 - (leap mask p.i p.perturb).1, i := (leap mask p.i p.perturb).1, perturb := (leap mask p.i p.perturb).2 }
theorem advance_eq (t : SetTable) (p : Probe) : t.advance p = adv t.mask p := by
  unfold advance adv
  split <;> rfl
def blockAt (mask i perturb : Nat) : Probe := { j := i, more := runEnd mask i - i, i, perturb, dummy := none }
def st (mask : Nat) (h : Int) : Probe := blockAt mask (bits h % (mask + 1)) (bits h)
def itr (mask : Nat) : Nat → Probe → Probe
  | 0, p => p
  | n + 1, p => itr mask n (adv mask p)
theorem itr_succ (mask : Nat) : ∀ n p, itr mask (n + 1) p = adv mask (itr mask n p)
  | 0, _ => rfl
  | n + 1, p => itr_succ mask n (adv mask p)
theorem itr_add (mask : Nat) : ∀ m n p, itr mask (m + n) p = itr mask n (itr mask m p)
  | 0, n, p => by rw [Nat.zero_add]; rfl
  | m + 1, n, p => by rw [Nat.succ_add]; exact itr_add mask m n (adv mask p)
def pos (mask : Nat) (h : Int) (n : Nat) : Nat := (itr mask n (st mask h)).j
theorem itr_run (mask : Nat) : ∀ r (p : Probe), r ≤ p.more → itr mask r p = { p with j := p.j + r, more := p.more - r }
  | 0, p, _ => rfl
  | r + 1, p, h => by
    show itr mask r (adv mask p) = _
    have e : adv mask p = { p with j := p.j + 1, more := p.more - 1 } := by unfold adv; rw [if_pos (by omega)]
    rw [e, itr_run mask r _ (by show r ≤ p.more - 1; omega)]
    show ({ j := p.j + 1 + r, more := p.more - 1 - r, i := p.i, perturb := p.perturb, dummy := p.dummy } : Probe) = { j := p.j + (r + 1), more := p.more - (r + 1), i := p.i, perturb := p.perturb, dummy := p.dummy }
    congr 1 <;> omega
theorem more_le (mask i : Nat) : runEnd mask i - i ≤ 9 := by unfold runEnd; split <;> omega
theorem itr_block (mask i perturb : Nat) : itr mask (runEnd mask i - i + 1) (blockAt mask i perturb) = blockAt mask (leap mask i perturb).1 (leap mask i perturb).2 := by
  rw [itr_succ, itr_run mask (runEnd mask i - i) (blockAt mask i perturb) (show runEnd mask i - i ≤ runEnd mask i - i from Nat.le_refl _)]
  unfold adv
  rw [if_neg (by show ¬ (runEnd mask i - i - (runEnd mask i - i) > 0); omega)]
  rfl
def bk (mask : Nat) : Nat → Nat × Nat → Nat × Nat
  | 0, x => x
  | m + 1, x => bk mask m (leap mask x.1 x.2)
theorem bk_add (mask : Nat) : ∀ m n x, bk mask (m + n) x = bk mask n (bk mask m x)
  | 0, n, x => by rw [Nat.zero_add]; rfl
  | m + 1, n, x => by rw [Nat.succ_add]; exact bk_add mask m n _
theorem block_at (mask : Nat) : ∀ m i p, ∃ n, n ≤ 10 * m ∧ itr mask n (blockAt mask i p) = blockAt mask (bk mask m (i, p)).1 (bk mask m (i, p)).2
  | 0, i, p => ⟨0, Nat.zero_le _, rfl⟩
  | m + 1, i, p => by
    obtain ⟨n, hn, e⟩ := block_at mask m (leap mask i p).1 (leap mask i p).2
    have h9 := more_le mask i
    refine ⟨runEnd mask i - i + 1 + n, by omega, ?_⟩
    rw [itr_add, itr_block, e]
    rfl
theorem bk_perturb (mask : Nat) : ∀ m i p, (bk mask m (i, p)).2 = p / 32 ^ m
  | 0, i, p => by simp [bk]
  | m + 1, i, p => by
    show (bk mask m ((leap mask i p).1, (leap mask i p).2)).2 = _
    rw [bk_perturb mask m]
    show p / 32 / 32 ^ m = p / 32 ^ (m + 1)
    rw [Nat.div_div_eq_div_mul, Nat.pow_succ, Nat.mul_comm]
theorem bk_zero (mask : Nat) : ∀ m x, x < mask + 1 → (bk mask m (x, 0)).1 = it m x % (mask + 1)
  | 0, x, h => by show x = x % (mask + 1); rw [Nat.mod_eq_of_lt h]
  | m + 1, x, h => by
    show (bk mask m ((x * 5 + 1 + 0 / 32) % (mask + 1), 0 / 32)).1 = it m (5 * x + 1) % (mask + 1)
    rw [Nat.zero_div, Nat.add_zero, bk_zero mask m _ (Nat.mod_lt _ (by omega))]
    have go : ∀ m a b, a % (mask + 1) = b % (mask + 1) → it m a % (mask + 1) = it m b % (mask + 1) := fun m => by
      induction m with
      | zero => intro a b h; exact h
      | succ m ih => intro a b h; exact ih _ _ (by rw [Nat.add_mod, Nat.mul_mod, h, ← Nat.mul_mod, ← Nat.add_mod])
    refine go m _ _ ?_
    rw [Nat.mod_mod, Nat.mul_comm]
theorem bits_lt (h : Int) : bits h < 2 ^ 64 := by unfold bits; omega
theorem covers {mask k : Nat} (hm : mask + 1 = 2 ^ k) (h : Int) {j : Nat} (hj : j ≤ mask) : ∃ n, n < 10 * (mask + 14) ∧ pos mask h n = j := by
  have hp : (bk mask 13 (bits h % (mask + 1), bits h)).2 = 0 := by
    rw [bk_perturb]
    refine Nat.div_eq_of_lt (Nat.lt_of_lt_of_le (bits_lt h) (by decide))
  have hlt : (bk mask 13 (bits h % (mask + 1), bits h)).1 < mask + 1 := by
    show (bk mask (12 + 1) _).1 < _
    rw [bk_add]
    show (leap mask _ _).1 < _
    exact Nat.mod_lt _ (by omega)
  generalize hX : bk mask 13 (bits h % (mask + 1), bits h) = X at hp hlt
  obtain ⟨x, p⟩ := X
  dsimp only at hp hlt
  subst hp
  obtain ⟨n, hn, e⟩ := reach_mod k x j (by omega)
  rw [← hm] at hn e
  obtain ⟨m, hm', em⟩ := block_at mask (13 + n) (bits h % (mask + 1)) (bits h)
  refine ⟨m, by omega, ?_⟩
  show (itr mask m (st mask h)).j = j
  unfold st
  rw [em, bk_add, hX]
  show (bk mask n (x, 0)).1 = j
  rw [bk_zero _ _ _ hlt, e]
theorem least {P : Nat → Prop} : ∀ b, (∃ n, n < b ∧ P n) → ∃ n, n < b ∧ P n ∧ ∀ m, m < n → ¬ P m
  | 0, ⟨_, h, _⟩ => absurd h (Nat.not_lt_zero _)
  | b + 1, ⟨n, hn, hp⟩ => by
    rcases Classical.em (∃ n, n < b ∧ P n) with c | c
    · obtain ⟨m, h1, h2, h3⟩ := least b c
      exact ⟨m, by omega, h2, h3⟩
    · have e : n = b := by
        rcases Nat.lt_or_ge n b with z | z
        · exact absurd ⟨n, z, hp⟩ c
        · omega
      subst e
      exact ⟨n, by omega, hp, fun m hm q => c ⟨m, hm, q⟩⟩
theorem first_free {mask k : Nat} (hm : mask + 1 = 2 ^ k) (h : Int) {occ : List Nat} (ho : ∃ j, j ≤ mask ∧ j ∉ occ) : ∃ n, n < 10 * (mask + 14) ∧ pos mask h n ∉ occ ∧ ∀ m, m < n → pos mask h m ∈ occ := by
  obtain ⟨j, hj, hn⟩ := ho
  obtain ⟨n, h1, h2⟩ := covers hm h hj
  obtain ⟨m, a, b, c⟩ := least (P := fun n => pos mask h n ∉ occ) (10 * (mask + 14)) ⟨n, h1, by show pos mask h n ∉ occ; rw [h2]; exact hn⟩
  exact ⟨m, a, b, fun q hq => Classical.byContradiction fun z => c q hq z⟩
theorem pos_le (mask : Nat) (h : Int) : ∀ n, pos mask h n ≤ mask ∧ (itr mask n (st mask h)).j + (itr mask n (st mask h)).more ≤ mask
  | 0 => by
    have h1 : bits h % (mask + 1) < mask + 1 := Nat.mod_lt _ (by omega)
    refine ⟨by show bits h % (mask + 1) ≤ mask; omega, ?_⟩
    show bits h % (mask + 1) + (runEnd mask (bits h % (mask + 1)) - bits h % (mask + 1)) ≤ mask
    unfold runEnd; split <;> omega
  | n + 1 => by
    obtain ⟨_, ih⟩ := pos_le mask h n
    unfold pos
    rw [itr_succ]
    generalize itr mask n (st mask h) = p at *
    unfold adv
    split
    · exact ⟨by show p.j + 1 ≤ mask; omega, by show p.j + 1 + (p.more - 1) ≤ mask; omega⟩
    · have h1 : (leap mask p.i p.perturb).1 < mask + 1 := Nat.mod_lt _ (by omega)
      generalize (leap mask p.i p.perturb).1 = i at *
      refine ⟨by show i ≤ mask; omega, ?_⟩
      show i + (runEnd mask i - i) ≤ mask
      unfold runEnd; split <;> omega
theorem itr_dummy (mask : Nat) (h : Int) : ∀ n, (itr mask n (st mask h)).dummy = none
  | 0 => rfl
  | n + 1 => by
    rw [itr_succ]
    have ih := itr_dummy mask h n
    unfold adv
    split <;> exact ih
end ST

namespace ST
open PySem PySem.SetTable
def Ris (xs : List Nat) : Prop := xs.Pairwise (· < ·)
theorem Ris.get {xs : Array Nat} (hr : Ris xs.toList) {i j : Nat} (hi : i < xs.size) (hj : j < xs.size) (h : i < j) : xs[i] < xs[j] := by
  have := List.pairwise_iff_getElem.mp hr i j (by simpa using hi) (by simpa using hj) h
  simpa using this
theorem Ris.get_le {xs : Array Nat} (hr : Ris xs.toList) {i j : Nat} (hi : i < xs.size) (hj : j < xs.size) (h : i ≤ j) : xs[i] ≤ xs[j] := by
  rcases Nat.lt_or_ge i j with c | c
  · exact Nat.le_of_lt (hr.get hi hj c)
  · have : i = j := by omega
    subst this; exact Nat.le_refl _
def Split (xs : Array Nat) (j r : Nat) : Prop := r ≤ xs.size ∧ (∀ i (h : i < xs.size), i < r → xs[i] < j) ∧ ∀ i (h : i < xs.size), r ≤ i → j ≤ xs[i]
theorem below_go {xs : Array Nat} (hr : Ris xs.toList) (j : Nat) : ∀ fuel lo hi, lo ≤ hi → hi ≤ xs.size → hi - lo ≤ fuel → (∀ i (h : i < xs.size), i < lo → xs[i] < j) → (∀ i (h : i < xs.size), hi ≤ i → j ≤ xs[i]) → Split xs j (below.go xs j fuel lo hi)
  | 0, lo, hi, h1, h2, h3, a, b => by
    have : lo = hi := by omega
    subst this
    exact ⟨h2, a, b⟩
  | fuel + 1, lo, hi, h1, h2, h3, a, b => by
    unfold below.go
    by_cases c : lo < hi
    · rw [if_pos c]
      dsimp only
      have hm : (lo + hi) / 2 < xs.size := by omega
      rw [show xs.getD ((lo + hi) / 2) j = xs[(lo + hi) / 2] by simp [Array.getD, hm]]
      by_cases d : xs[(lo + hi) / 2] < j
      · rw [if_pos d]
        exact below_go hr j fuel _ _ (by omega) h2 (by omega) (fun i h q => Nat.lt_of_le_of_lt (hr.get_le h hm (by omega)) d) b
      · rw [if_neg d]
        exact below_go hr j fuel _ _ (by omega) (by omega) (by omega) a (fun i h q => Nat.le_trans (by omega) (hr.get_le hm h q))
    · rw [if_neg c]
      have : lo = hi := by omega
      subst this
      exact ⟨h2, a, b⟩
theorem below_spec {xs : Array Nat} (hr : Ris xs.toList) (j : Nat) : Split xs j (below xs j) :=
  below_go hr j _ _ _ (Nat.zero_le _) (Nat.le_refl _) (by omega) (fun i h q => absurd q (Nat.not_lt_zero _)) (fun i h q => absurd h (by omega))
theorem below_at {xs : Array Nat} (hr : Ris xs.toList) {i j : Nat} (h : xs[i]? = some j) : below xs j = i := by
  obtain ⟨hi, e⟩ := Array.getElem?_eq_some_iff.mp h
  obtain ⟨h1, h2, h3⟩ := below_spec hr j
  rcases Nat.lt_trichotomy (below xs j) i with c | c | c
  · have := h3 _ (by omega) (Nat.le_refl (below xs j))
    have := hr.get (i := below xs j) (j := i) (by omega) hi c
    omega
  · exact c
  · have := h2 i hi c
    omega
theorem slot_live {t : SetTable} (hr : Ris t.place.toList) {i j : Nat} (h : t.place[i]? = some j) : t.slot j = .live i := by
  unfold SetTable.slot
  dsimp only
  rw [below_at hr h, h]
  simp
theorem slot_empty {t : SetTable} (hd : t.dummies = #[]) {j : Nat} (h : j ∉ t.place.toList) : t.slot j = .empty := by
  unfold SetTable.slot
  dsimp only
  have e : (t.place[below t.place j]? == some j) = false := by
    rw [beq_eq_false_iff_ne]
    intro q
    obtain ⟨hi, e⟩ := Array.getElem?_eq_some_iff.mp q
    exact h (by rw [← e]; simp)
  rw [e, hd]
  simp [has]
theorem slot_mem {t : SetTable} (hr : Ris t.place.toList) {j : Nat} (h : j ∈ t.place.toList) : ∃ i, t.place[i]? = some j ∧ t.slot j = .live i := by
  obtain ⟨i, hi, e⟩ := List.getElem_of_mem h
  have : t.place[i]? = some j := by rw [← Array.getElem?_toList, List.getElem?_eq_getElem hi, e]
  exact ⟨i, this, slot_live hr this⟩
theorem pigeon : ∀ (n : Nat) (xs : List Nat), (∀ j, j < n → j ∈ xs) → n ≤ xs.length
  | 0, _, _ => Nat.zero_le _
  | n + 1, xs, h => by
    have hn := h n (by omega)
    have := pigeon n (xs.erase n) fun j hj => (List.mem_erase_of_ne (by omega)).mpr (h j (by omega))
    rw [List.length_erase_of_mem hn] at this
    have : 0 < xs.length := List.length_pos_of_mem hn
    omega
theorem some_free {mask : Nat} {xs : List Nat} (h : xs.length ≤ mask) : ∃ j, j ≤ mask ∧ j ∉ xs := by
  refine Classical.byContradiction fun c => ?_
  have := pigeon (mask + 1) xs fun j hj => Classical.byContradiction fun q => c ⟨j, by omega, q⟩
  omega
structure Good (t : SetTable) (hs : List Int) : Prop where
  pw : ∃ k, 3 ≤ k ∧ t.mask + 1 = 2 ^ k
  dum : t.dummies = #[]
  ris : Ris t.place.toList
  le : ∀ j ∈ t.place.toList, j ≤ t.mask
  len : t.place.size = hs.length
  room : t.place.size ≤ t.mask
  reach : ∀ x ∈ t.place.toList.zip hs, ∃ q, pos t.mask x.2 q = x.1 ∧ ∀ m, m < q → pos t.mask x.2 m ∈ t.place.toList
theorem Good.free {t : SetTable} {hs : List Int} (g : Good t hs) (h : Int) : ∃ n, n < 10 * (t.mask + 14) ∧ pos t.mask h n ∉ t.place.toList ∧ ∀ m, m < n → pos t.mask h m ∈ t.place.toList := by
  obtain ⟨k, _, hk⟩ := g.pw
  exact first_free hk h (some_free (by rw [Array.length_toList]; exact g.room))
theorem Good.odd {t : SetTable} {hs : List Int} (g : Good t hs) : t.gaveWay = false := by
  obtain ⟨k, h3, hk⟩ := g.pw
  obtain ⟨j, rfl⟩ : ∃ j, k = j + 1 := ⟨k - 1, by omega⟩
  rw [Nat.pow_succ] at hk
  unfold SetTable.gaveWay
  rw [beq_eq_false_iff_ne]
  omega
theorem Good.fits {t : SetTable} {hs : List Int} (g : Good t hs) : t.fits hs.length = true := by
  unfold SetTable.fits SetTable.fill
  rw [g.dum, g.len]
  have := g.room
  rw [g.len] at this
  simp [this]
theorem probe_go {t : SetTable} {hs : List Int} (g : Good t hs) (h : Int) {N : Nat} (hN : pos t.mask h N ∉ t.place.toList) (hO : ∀ m, m < N → pos t.mask h m ∈ t.place.toList) (hashAt : Nat → Int) :
    ∀ fuel q, q ≤ N → N - q < fuel →
      (probe.go t hashAt h fuel (itr t.mask q (st t.mask h)) = some (.empty (pos t.mask h N) none) ∧ ∀ m i, q ≤ m → m < N → t.slot (pos t.mask h m) = .live i → hashAt i ≠ h) ∨
      ∃ m i, q ≤ m ∧ m < N ∧ t.slot (pos t.mask h m) = .live i ∧ hashAt i = h ∧ probe.go t hashAt h fuel (itr t.mask q (st t.mask h)) = some (.candidate (pos t.mask h m) i (itr t.mask (m + 1) (st t.mask h))) ∧
        ∀ m' i, q ≤ m' → m' < m → t.slot (pos t.mask h m') = .live i → hashAt i ≠ h
  | 0, q, h1, h2 => absurd h2 (Nat.not_lt_zero _)
  | fuel + 1, q, h1, h2 => by
    unfold probe.go
    by_cases e : q = N
    · subst e
      rw [show t.slot (itr t.mask q (st t.mask h)).j = .empty from slot_empty g.dum hN]
      refine .inl ⟨?_, fun m i a b => absurd b (by omega)⟩
      show some (Met.empty (itr t.mask q (st t.mask h)).j (itr t.mask q (st t.mask h)).dummy) = _
      rw [itr_dummy]; rfl
    · obtain ⟨i, hi, hs'⟩ := slot_mem g.ris (hO q (by omega))
      rw [show t.slot (itr t.mask q (st t.mask h)).j = .live i from hs']
      dsimp only
      rw [show t.advance (itr t.mask q (st t.mask h)) = itr t.mask (q + 1) (st t.mask h) by rw [advance_eq, ← itr_succ]]
      by_cases c : hashAt i = h
      · rw [if_pos (by rw [c]; exact beq_self_eq_true h)]
        exact .inr ⟨q, i, Nat.le_refl _, by omega, hs', c, rfl, fun m' i a b => absurd b (by omega)⟩
      · rw [if_neg (by simpa using c)]
        rcases probe_go g h hN hO hashAt fuel (q + 1) (by omega) (by omega) with ⟨a, b⟩ | ⟨m, i', a1, a2, a3, a4, a5, a6⟩
        · refine .inl ⟨a, fun m i' h1' h2' h3' => ?_⟩
          by_cases z : m = q
          · subst z; rw [hs'] at h3'; cases h3'; exact c
          · exact b m i' (by omega) h2' h3'
        · refine .inr ⟨m, i', by omega, a2, a3, a4, a5, fun m' i'' h1' h2' h3' => ?_⟩
          by_cases z : m' = q
          · subst z; rw [hs'] at h3'; cases h3'; exact c
          · exact a6 m' i'' (by omega) h2' h3'
/-! ### one more -/
theorem toList_insertAt {α : Type} (xs : Array α) (p : Nat) (x : α) : (insertAt xs p x).toList = xs.toList.take p ++ x :: xs.toList.drop p := by
  unfold insertAt
  simp [Array.toList_extract, List.take_of_length_le]
theorem ris_insert {xs : Array Nat} (hr : Ris xs.toList) {j : Nat} (hn : j ∉ xs.toList) : Ris (insertAt xs (below xs j) j).toList := by
  obtain ⟨h1, h2, h3⟩ := below_spec hr j
  rw [toList_insertAt]
  unfold Ris at *
  have low : ∀ a ∈ xs.toList.take (below xs j), a < j := fun a ha => by
    obtain ⟨i, hi, e⟩ := List.getElem_of_mem ha
    rw [List.length_take] at hi
    rw [List.getElem_take] at e
    have := h2 i (by rw [Array.length_toList] at hi; omega) (by omega)
    rw [← e]; simpa using this
  have high : ∀ a ∈ xs.toList.drop (below xs j), j < a := fun a ha => by
    have hm := List.mem_of_mem_drop ha
    obtain ⟨i, hi, e⟩ := List.getElem_of_mem ha
    rw [List.length_drop, Array.length_toList] at hi
    rw [List.getElem_drop] at e
    have := h3 (below xs j + i) (by omega) (by omega)
    have e' : xs[below xs j + i] = a := by rw [← e]; simp
    rcases Nat.lt_or_ge j a with q | q
    · exact q
    · exact absurd (by rw [show j = a by omega]; exact hm) hn
  rw [List.pairwise_append]
  refine ⟨hr.sublist (List.take_sublist _ _), ?_, fun a ha b hb => ?_⟩
  · rw [List.pairwise_cons]
    exact ⟨high, hr.sublist (List.drop_sublist _ _)⟩
  · rcases List.mem_cons.mp hb with rfl | hb
    · exact low a ha
    · exact Nat.lt_trans (low a ha) (high b hb)
def insL {α : Type} (xs : List α) (p : Nat) (x : α) : List α := xs.take p ++ x :: xs.drop p
theorem insL_perm {α : Type} (xs : List α) (p : Nat) (x : α) : (insL xs p x).Perm (x :: xs) := by
  unfold insL
  refine List.perm_middle.trans ?_
  rw [List.take_append_drop]
theorem zip_insL {α β : Type} {xs : List α} {ys : List β} (h : xs.length = ys.length) (p : Nat) (x : α) (y : β) : (insL xs p x).zip (insL ys p y) = insL (xs.zip ys) p (x, y) := by
  unfold insL
  rw [List.zip_append (by simp [h]), List.zip_cons_cons]
  simp only [List.zip, List.take_zipWith, List.drop_zipWith]
theorem Good.put {t : SetTable} {hs : List Int} (g : Good t hs) {h : Int} {n : Nat} (hn : pos t.mask h n ∉ t.place.toList) (ho : ∀ m, m < n → pos t.mask h m ∈ t.place.toList) (hr : t.place.size < t.mask) (pl : Bool) :
    Good { (t.put (pos t.mask h n)).1 with plain := pl } (insL hs (below t.place (pos t.mask h n)) h) := by
  have hl : t.place.toList.length = hs.length := by rw [Array.length_toList]; exact g.len
  have e : (insertAt t.place (below t.place (pos t.mask h n)) (pos t.mask h n)).toList = insL t.place.toList (below t.place (pos t.mask h n)) (pos t.mask h n) := toList_insertAt _ _ _
  have mem : ∀ a, a ∈ (insertAt t.place (below t.place (pos t.mask h n)) (pos t.mask h n)).toList ↔ a = pos t.mask h n ∨ a ∈ t.place.toList := fun a => by
    rw [e, (insL_perm _ _ _).mem_iff, List.mem_cons]
  have ln : (insertAt t.place (below t.place (pos t.mask h n)) (pos t.mask h n)).size = t.place.size + 1 := by
    rw [← Array.length_toList, e, (insL_perm _ _ _).length_eq, List.length_cons, Array.length_toList]
  refine ⟨g.pw, ?_, ris_insert g.ris hn, fun j hj => ?_, ?_, ?_, fun x hx => ?_⟩
  · show (if has t.dummies (pos t.mask h n) = true then eraseAt t.dummies (below t.dummies (pos t.mask h n)) else t.dummies) = #[]
    rw [g.dum]; simp [has]
  · rcases (mem j).mp hj with rfl | q
    · exact (pos_le _ _ _).1
    · exact g.le j q
  · show (insertAt t.place _ _).size = _
    rw [ln, (insL_perm _ _ _).length_eq, List.length_cons, g.len]
  · show (insertAt t.place _ _).size ≤ t.mask
    rw [ln]; exact hr
  · show ∃ q, pos t.mask x.2 q = x.1 ∧ ∀ m, m < q → pos t.mask x.2 m ∈ (insertAt t.place _ _).toList
    have hx' : x ∈ (insertAt t.place (below t.place (pos t.mask h n)) (pos t.mask h n)).toList.zip (insL hs (below t.place (pos t.mask h n)) h) := hx
    rw [e, zip_insL hl, (insL_perm _ _ _).mem_iff, List.mem_cons] at hx'
    rcases hx' with rfl | q
    · exact ⟨n, rfl, fun m hm => (mem _).mpr (.inr (ho m hm))⟩
    · obtain ⟨q', a, b⟩ := g.reach x q
      exact ⟨q', a, fun m hm => (mem _).mpr (.inr (b m hm))⟩
end ST

namespace ST
open PySem PySem.SetTable
/-! ### all laid anew -/
abbrev Ow := Array (Option Nat)
def taken (o : Ow) : List Nat := (List.range o.size).filter fun j => (o.getD j none).isSome
theorem mem_taken {o : Ow} {j : Nat} : j ∈ taken o ↔ ∃ i, o[j]? = some (some i) := by
  unfold taken
  rw [List.mem_filter, List.mem_range]
  constructor
  · rintro ⟨h1, h2⟩
    have e : o.getD j none = o[j] := by simp [Array.getD, h1]
    rw [e] at h2
    obtain ⟨i, hi⟩ := Option.isSome_iff_exists.mp h2
    exact ⟨i, by rw [Array.getElem?_eq_getElem h1, hi]⟩
  · rintro ⟨i, hi⟩
    obtain ⟨h1, e⟩ := Array.getElem?_eq_some_iff.mp hi
    refine ⟨h1, ?_⟩
    simp [Array.getD, h1, e]
theorem free_test {o : Ow} {j : Nat} (h : j < o.size) : ((o.getD j (some 0)).isNone = true ↔ j ∉ taken o) := by
  rw [mem_taken]
  have e : o.getD j (some 0) = o[j] := by simp [Array.getD, h]
  rw [e, Array.getElem?_eq_getElem h]
  cases o[j] <;> simp
theorem free_go {mask : Nat} {o : Ow} (hsz : o.size = mask + 1) (h : Int) : ∀ m fuel i p n, m < fuel → i ≤ mask → itr mask n (st mask h) = blockAt mask i p → (bk mask m (i, p)).1 ∉ taken o →
    ∃ N, n ≤ N ∧ layClean.free mask o fuel i p = some (pos mask h N) ∧ pos mask h N ∉ taken o ∧ ∀ q, n ≤ q → q < N → pos mask h q ∈ taken o
  | m, 0, i, p, n, hf, hi, hn, hb => absurd hf (Nat.not_lt_zero _)
  | m, fuel + 1, i, p, n, hf, hi, hn, hb => by
    have hrun : ∀ k, k ≤ runEnd mask i - i → pos mask h (n + k) = i + k := fun k hk => by
      show (itr mask (n + k) (st mask h)).j = i + k
      rw [itr_add, hn, itr_run mask k (blockAt mask i p) hk]
      rfl
    have hre : i ≤ runEnd mask i ∧ runEnd mask i ≤ mask := by unfold runEnd; split <;> omega
    have ht : ∀ k, k ≤ runEnd mask i - i → ((o.getD (i + k) (some 0)).isNone = true ↔ pos mask h (n + k) ∉ taken o) := fun k hk => by
      rw [hrun k hk]; exact free_test (by omega)
    unfold layClean.free
    cases hf' : (List.range (runEnd mask i + 1 - i)).find? fun k => (o.getD (i + k) (some 0)).isNone with
    | some k =>
      obtain ⟨a, b, c⟩ := List.find?_range_eq_some.mp hf'
      rw [List.mem_range] at b
      refine ⟨n + k, by omega, ?_, (ht k (by omega)).mp a, fun q h1 h2 => ?_⟩
      · rw [hrun k (by omega)]
      · have d := c (q - n) (by omega)
        have z := ht (q - n) (by omega)
        rw [show n + (q - n) = q by omega] at z
        refine Classical.byContradiction fun y => ?_
        rw [z.mpr y] at d
        cases d
    | none =>
      have all : ∀ k, k ≤ runEnd mask i - i → pos mask h (n + k) ∈ taken o := fun k hk => by
        have d := List.find?_range_eq_none.mp hf' k (by omega)
        have z := ht k hk
        refine Classical.byContradiction fun y => ?_
        rw [z.mpr y] at d
        cases d
      dsimp only
      cases m with
      | zero =>
        have := all 0 (Nat.zero_le _)
        rw [hrun 0 (Nat.zero_le _)] at this
        exact absurd this hb
      | succ m =>
        have hl : (leap mask i p).1 ≤ mask := Nat.le_of_lt_succ (Nat.mod_lt _ (by omega))
        obtain ⟨N, a, b, c, d⟩ := free_go hsz h m fuel (leap mask i p).1 (leap mask i p).2 (n + (runEnd mask i - i + 1)) (by omega) hl (by rw [itr_add, hn, itr_block]) hb
        refine ⟨N, by omega, b, c, fun q h1 h2 => ?_⟩
        by_cases z : q < n + (runEnd mask i - i + 1)
        · have := all (q - n) (by omega)
          rwa [show n + (q - n) = q by omega] at this
        · exact d q (by omega) h2
theorem covers_bk {mask k : Nat} (hm : mask + 1 = 2 ^ k) (h : Int) {j : Nat} (hj : j ≤ mask) : ∃ m, m < mask + 15 ∧ (bk mask m (bits h % (mask + 1), bits h)).1 = j := by
  have hp : (bk mask 13 (bits h % (mask + 1), bits h)).2 = 0 := by
    rw [bk_perturb]
    refine Nat.div_eq_of_lt (Nat.lt_of_lt_of_le (bits_lt h) (by decide))
  have hlt : (bk mask 13 (bits h % (mask + 1), bits h)).1 < mask + 1 := by
    show (bk mask (12 + 1) _).1 < _
    rw [bk_add]
    show (leap mask _ _).1 < _
    exact Nat.mod_lt _ (by omega)
  generalize hX : bk mask 13 (bits h % (mask + 1), bits h) = X at hp hlt
  obtain ⟨x, p⟩ := X
  dsimp only at hp hlt
  subst hp
  obtain ⟨n, hn, e⟩ := reach_mod k x j (by omega)
  rw [← hm] at hn e
  refine ⟨13 + n, by omega, ?_⟩
  rw [bk_add, hX]
  show (bk mask n (x, 0)).1 = j
  rw [bk_zero _ _ _ hlt, e]
theorem free_some {mask k : Nat} (hm : mask + 1 = 2 ^ k) {o : Ow} (hsz : o.size = mask + 1) (ho : ∃ j, j ≤ mask ∧ j ∉ taken o) (h : Int) :
    ∃ N, layClean.free mask o (turns mask) (bits h % (mask + 1)) (bits h) = some (pos mask h N) ∧ pos mask h N ∉ taken o ∧ ∀ q, q < N → pos mask h q ∈ taken o := by
  obtain ⟨j, hj, hn⟩ := ho
  obtain ⟨m, h1, h2⟩ := covers_bk hm h hj
  obtain ⟨N, _, b, c, d⟩ := free_go hsz h m (turns mask) (bits h % (mask + 1)) (bits h) 0 (by unfold turns; omega) (Nat.le_of_lt_succ (Nat.mod_lt _ (by omega))) rfl (by rw [h2]; exact hn)
  exact ⟨N, b, c, fun q hq => d q (Nat.zero_le _) hq⟩
structure Laid (mask : Nat) (hs : List Int) (o : Ow) (n : Nat) : Prop where
  sz : o.size = mask + 1
  lt : ∀ j i : Nat, o[j]? = some (some i) → i < n
  all : ∀ i, i < n → ∃ j : Nat, o[j]? = some (some i)
  inj : ∀ j j' i : Nat, o[j]? = some (some i) → o[j']? = some (some i) → j = j'
  reach : ∀ (j i : Nat) (h : Int), o[j]? = some (some i) → hs[i]? = some h → ∃ q, pos mask h q = j ∧ ∀ m, m < q → pos mask h m ∈ taken o
theorem taken_length {mask : Nat} {hs : List Int} {o : Ow} {n : Nat} (L : Laid mask hs o n) : (taken o).length ≤ n := by
  -- an injective list of owners
  have hnd : (taken o).Nodup := List.Nodup.sublist List.filter_sublist List.nodup_range
  have key : ∀ (l : List Nat) (n : Nat), l.Nodup → (∀ j ∈ l, ∃ i : Nat, i < n ∧ o[j]? = some (some i)) → l.length ≤ n := by
    intro l
    induction l with
    | nil => intro n _ _; exact Nat.zero_le _
    | cons a r ih =>
      intro n hd hl
      have own : ∀ j ∈ a :: r, ∃ i : Nat, i < n ∧ o[j]? = some (some i) := hl
      let f : Nat → Nat := fun j => match o[j]? with | some (some i) => i | _ => 0
      have hf : ∀ j ∈ a :: r, o[j]? = some (some (f j)) := fun j hj => by
        obtain ⟨i, _, e⟩ := own j hj
        show o[j]? = some (some (match o[j]? with | some (some i) => i | _ => 0))
        rw [e]
      have h1 : ((a :: r).map f).Nodup := by
        rw [List.nodup_iff_pairwise_ne, List.pairwise_map]
        refine List.Pairwise.imp_of_mem (R := fun x y => x ≠ y) (fun {x y} hx hy hne e => hne ?_) (List.nodup_iff_pairwise_ne.mp hd)
        exact L.inj x y (f x) (hf x hx) (by rw [e]; exact hf y hy)
      have h2 : ∀ i ∈ (a :: r).map f, i < n := fun i hi => by
        obtain ⟨j, hj, rfl⟩ := List.mem_map.mp hi
        obtain ⟨i', h, e⟩ := own j hj
        have := hf j hj
        rw [e] at this; cases this; exact h
      have p : ((a :: r).map f).length ≤ (List.range n).length := List.Nodup.length_le_of_subset h1 fun i hi => List.mem_range.mpr (h2 i hi)
      rwa [List.length_map, List.length_range] at p
  exact key _ n hnd fun j hj => let ⟨i, e⟩ := mem_taken.mp hj; ⟨i, L.lt j i e, e⟩
end ST

namespace ST
open PySem PySem.SetTable
theorem taken_set {o : Ow} {j n : Nat} (hj : j < o.size) (a : Nat) : a ∈ taken (o.setIfInBounds j (some n)) ↔ a = j ∨ a ∈ taken o := by
  rw [mem_taken, mem_taken]
  by_cases e : a = j
  · subst e
    simp [Array.getElem?_setIfInBounds, hj]
  · have : (o.setIfInBounds j (some n))[a]? = o[a]? := by rw [Array.getElem?_setIfInBounds, if_neg (fun h => e h.symm)]
    rw [this]; simp [e]
theorem Laid.more {mask k : Nat} {hs : List Int} {o : Ow} {n : Nat} (hm : mask + 1 = 2 ^ k) (L : Laid mask hs o n) (hn : n ≤ mask) {h : Int} (hh : hs[n]? = some h) :
    ∃ j, layClean.free mask o (turns mask) (bits h % (mask + 1)) (bits h) = some j ∧ Laid mask hs (o.setIfInBounds j (some n)) (n + 1) := by
  obtain ⟨N, a, b, c⟩ := free_some hm L.sz (some_free (Nat.le_trans (taken_length L) hn)) h
  have hj : pos mask h N < o.size := by rw [L.sz]; exact Nat.lt_succ_of_le (pos_le mask h N).1
  refine ⟨_, a, ?_⟩
  generalize hJ : pos mask h N = J at *
  have at_ : ∀ x i : Nat, (o.setIfInBounds J (some n))[x]? = some (some i) → (x = J ∧ i = n) ∨ (x ≠ J ∧ o[x]? = some (some i)) := fun x i e => by
    rw [Array.getElem?_setIfInBounds] at e
    by_cases z : J = x
    · subst z
      rw [if_pos rfl, if_pos hj] at e
      cases e; exact .inl ⟨rfl, rfl⟩
    · rw [if_neg z] at e
      exact .inr ⟨fun q => z q.symm, e⟩
  have hJf : ∀ i, o[J]? ≠ some (some i) := fun i e => b (mem_taken.mpr ⟨i, e⟩)
  refine ⟨by rw [Array.size_setIfInBounds]; exact L.sz, fun x i e => ?_, fun i hi => ?_, fun x y i e1 e2 => ?_, fun x i h' e1 e2 => ?_⟩
  · rcases at_ x i e with ⟨_, rfl⟩ | ⟨_, e⟩
    · exact Nat.lt_succ_self _
    · exact Nat.lt_succ_of_lt (L.lt x i e)
  · by_cases z : i = n
    · subst z
      exact ⟨J, by rw [Array.getElem?_setIfInBounds, if_pos rfl, if_pos hj]⟩
    · obtain ⟨x, e⟩ := L.all i (by omega)
      refine ⟨x, ?_⟩
      rw [Array.getElem?_setIfInBounds, if_neg (fun q => by subst q; exact hJf i e)]
      exact e
  · rcases at_ x i e1 with ⟨rfl, rfl⟩ | ⟨n1, f1⟩
    · rcases at_ y i e2 with ⟨rfl, _⟩ | ⟨n2, e2⟩
      · rfl
      · exact absurd (L.lt y i e2) (Nat.lt_irrefl _)
    · rcases at_ y i e2 with ⟨rfl, rfl⟩ | ⟨n2, f2⟩
      · exact absurd (L.lt x i f1) (Nat.lt_irrefl _)
      · exact L.inj x y i f1 f2
  · rcases at_ x i e1 with ⟨rfl, rfl⟩ | ⟨n1, e1⟩
    · rw [hh] at e2; cases e2
      exact ⟨N, hJ, fun m hm => (taken_set hj _).mpr (.inr (c m hm))⟩
    · obtain ⟨q, q1, q2⟩ := L.reach x i h' e1 e2
      exact ⟨q, q1, fun m hm => (taken_set hj _).mpr (.inr (q2 m hm))⟩
theorem layClean_fold {mask k : Nat} (hm : mask + 1 = 2 ^ k) {hs : List Int} (hl : hs.length ≤ mask + 1) : ∀ (rest pre : List Int) (o : Ow), hs = pre ++ rest → Laid mask hs o pre.length →
    ∃ o', rest.foldl (fun acc h => do let (owner, k) ← acc; let j ← layClean.free mask owner (turns mask) (bits h % (mask + 1)) (bits h); pure (owner.setIfInBounds j (some k), k + 1)) (some (o, pre.length)) = some (o', hs.length) ∧ Laid mask hs o' hs.length
  | [], pre, o, e, L => by
    rw [List.append_nil] at e; subst e
    exact ⟨o, rfl, L⟩
  | h :: rest, pre, o, e, L => by
    have hh : hs[pre.length]? = some h := by rw [e]; simp
    have hlen : pre.length ≤ mask := by
      have := congrArg List.length e
      rw [List.length_append, List.length_cons] at this
      omega
    obtain ⟨j, a, b⟩ := L.more hm hlen hh
    obtain ⟨o', c, d⟩ := layClean_fold hm hl rest (pre ++ [h]) (o.setIfInBounds j (some pre.length)) (by rw [List.append_assoc]; exact e) (by rw [List.length_append]; exact b)
    refine ⟨o', ?_, d⟩
    rw [List.foldl_cons, ← c]
    congr 1
    show (do let j ← layClean.free mask o (turns mask) (bits h % (mask + 1)) (bits h); pure (o.setIfInBounds j (some pre.length), pre.length + 1)) = _
    rw [a, List.length_append]
    rfl
theorem layClean_some {mask k : Nat} (hm : mask + 1 = 2 ^ k) {hs : Array Int} (hl : hs.size ≤ mask + 1) : ∃ o, layClean mask hs = some o ∧ Laid mask hs.toList o hs.size := by
  have L0 : Laid mask hs.toList (Array.replicate (mask + 1) none) ([] : List Int).length :=
    ⟨by simp, fun j i e => by
      rw [Array.getElem?_replicate] at e
      split at e <;> simp at e, fun i hi => absurd hi (Nat.not_lt_zero _), fun j j' i e => by
      rw [Array.getElem?_replicate] at e
      split at e <;> simp at e, fun j i h e => by
      rw [Array.getElem?_replicate] at e
      split at e <;> simp at e⟩
  obtain ⟨o, a, b⟩ := layClean_fold hm (by simpa using hl) hs.toList [] _ rfl L0
  refine ⟨o, ?_, by simpa using b⟩
  unfold layClean
  rw [← Array.foldl_toList]
  show Option.map _ (List.foldl _ (some (Array.replicate (mask + 1) none, ([] : List Int).length)) hs.toList) = _
  rw [a]
  rfl
theorem sizeAbove_go (w : Nat) : ∀ fuel k, w < 2 ^ fuel * 2 ^ k → ∃ k', k ≤ k' ∧ sizeAbove.go w fuel (2 ^ k) = 2 ^ k' ∧ w < 2 ^ k' ∧ (2 ^ k' = 2 ^ k ∨ 2 ^ k' ≤ 2 * w)
  | 0, k, h => ⟨k, Nat.le_refl _, rfl, by simpa using h, .inl rfl⟩
  | fuel + 1, k, h => by
    unfold sizeAbove.go
    by_cases c : 2 ^ k ≤ w
    · rw [if_pos c, ← Nat.pow_succ]
      obtain ⟨k', a, b, d, e⟩ := sizeAbove_go w fuel (k + 1) (by rw [Nat.pow_succ] at h ⊢; rw [Nat.mul_comm (2 ^ k) 2, ← Nat.mul_assoc]; exact h)
      refine ⟨k', by omega, b, d, .inr ?_⟩
      rcases e with e | e
      · rw [e, Nat.pow_succ]; omega
      · exact e
    · rw [if_neg c]
      exact ⟨k, Nat.le_refl _, rfl, by omega, .inl rfl⟩
theorem sizeAbove_spec {w : Nat} (h : w < 2 ^ 60) : ∃ k, 3 ≤ k ∧ sizeAbove w = 2 ^ k ∧ w < 2 ^ k ∧ (2 ^ k = 8 ∨ 2 ^ k ≤ 2 * w) :=
  sizeAbove_go w 64 3 (Nat.lt_of_lt_of_le h (by decide))
def liveOf (mask : Nat) (o : Ow) : List (Nat × Nat) := (List.range (mask + 1)).filterMap fun j => (o.getD j none).map (j, ·)
theorem mem_live {mask : Nat} {o : Ow} (hs : o.size = mask + 1) {j i : Nat} : (j, i) ∈ liveOf mask o ↔ o[j]? = some (some i) := by
  unfold liveOf
  rw [List.mem_filterMap]
  constructor
  · rintro ⟨a, ha, e⟩
    rw [List.mem_range] at ha
    have g : o.getD a none = o[a] := by simp [Array.getD, show a < o.size by omega]
    rw [g, Option.map_eq_some_iff] at e
    obtain ⟨b, e1, e2⟩ := e
    cases e2
    rw [Array.getElem?_eq_getElem (by omega), e1]
  · intro e
    obtain ⟨h1, e1⟩ := Array.getElem?_eq_some_iff.mp e
    refine ⟨j, List.mem_range.mpr (by omega), ?_⟩
    have g : o.getD j none = o[j] := by simp [Array.getD, h1]
    rw [g, e1]; rfl
theorem live_ris (mask : Nat) (o : Ow) : Ris ((liveOf mask o).map (·.1)) := by
  unfold liveOf Ris
  have key : ∀ l : List Nat, l.Pairwise (· < ·) → ((l.filterMap fun j => (o.getD j none).map (j, ·)).map (·.1)).Pairwise (· < ·) ∧ ∀ x ∈ (l.filterMap fun j => (o.getD j none).map (j, ·)).map (·.1), x ∈ l := by
    intro l
    induction l with
    | nil => intro _; exact ⟨by simp, by simp⟩
    | cons a r ih =>
      intro h
      rw [List.pairwise_cons] at h
      obtain ⟨p, q⟩ := ih h.2
      rw [List.filterMap_cons]
      cases hc : (o.getD a none).map (a, ·) with
      | none => exact ⟨p, fun x hx => List.mem_cons_of_mem _ (q x hx)⟩
      | some y =>
        rw [Option.map_eq_some_iff] at hc
        obtain ⟨b, _, rfl⟩ := hc
        rw [List.map_cons, List.pairwise_cons]
        refine ⟨⟨fun x hx => h.1 x (q x hx), p⟩, fun x hx => ?_⟩
        rcases List.mem_cons.mp hx with rfl | hx
        · exact List.mem_cons_self
        · exact List.mem_cons_of_mem _ (q x hx)
  exact (key _ List.pairwise_lt_range).1
theorem range_picks {α : Type} (l : List α) : (List.range l.length).filterMap (fun i => l[i]?) = l := by
  induction l with
  | nil => rfl
  | cons a r ih =>
    rw [List.length_cons, List.range_succ_eq_map, List.filterMap_cons]
    simp only [List.getElem?_cons_zero, List.filterMap_map]
    congr 1
theorem laid_good {mask k : Nat} (h3 : 3 ≤ k) (hm : mask + 1 = 2 ^ k) {es : Array (Int × Value)} (hl : es.size ≤ mask) (f mv : Nat) (ld pl : Bool) :
    ∃ t order, laid mask f mv ld pl (es.map (·.1)) = some (t, order) ∧ t.mask = mask ∧ List.Perm (order.filterMap (es[·]?)).toList es.toList ∧ Good t ((order.filterMap (es[·]?)).toList.map (·.1)) := by
  obtain ⟨o, a, L⟩ := layClean_some hm (hs := es.map (·.1)) (by rw [Array.size_map]; omega)
  rw [Array.size_map] at L
  have hord : ((liveOf mask o).map (·.2)).Nodup := by
    rw [List.nodup_iff_pairwise_ne, List.pairwise_map]
    have hp : (liveOf mask o).Pairwise fun x y => x.1 < y.1 := List.pairwise_map.mp (live_ris mask o)
    refine List.Pairwise.imp_of_mem (fun {x y} hx hy hlt e => ?_) hp
    have e1 := (mem_live L.sz (j := x.1) (i := x.2)).mp hx
    have e2 := (mem_live L.sz (j := y.1) (i := y.2)).mp hy
    rw [← e] at e2
    have := L.inj _ _ _ e1 e2
    omega
  have hperm : List.Perm ((liveOf mask o).map (·.2)) (List.range es.size) := by
    refine (List.perm_ext_iff_of_nodup hord List.nodup_range).mpr fun i => ?_
    rw [List.mem_map, List.mem_range]
    constructor
    · rintro ⟨x, hx, rfl⟩
      exact L.lt _ _ ((mem_live L.sz (j := x.1) (i := x.2)).mp hx)
    · intro hi
      obtain ⟨j, e⟩ := L.all i hi
      exact ⟨(j, i), (mem_live L.sz).mpr e, rfl⟩
  refine ⟨{ mask, place := ((liveOf mask o).map (·.1)).toArray, dummies := #[], finger := f, led := ld, moves := mv, plain := pl }, ((liveOf mask o).map (·.2)).toArray, ?_, rfl, ?_, ?_⟩
  · unfold laid
    rw [a]
    rfl
  · have e : ((((liveOf mask o).map (·.2)).toArray).filterMap (es[·]?)).toList = ((liveOf mask o).map (·.2)).filterMap (es[·]?) := by simp
    rw [e]
    refine (hperm.filterMap _).trans ?_
    have := range_picks es.toList
    simp only [Array.length_toList, Array.getElem?_toList] at this
    rw [this]
  · have picks : ∀ l : List (Nat × Nat), (∀ x ∈ l, x.2 < es.size) → (l.map (·.2)).filterMap (es[·]?) = l.map fun x => (es[x.2]?).getD default := by
      intro l
      induction l with
      | nil => intro _; rfl
      | cons x r ih =>
        intro h
        have hx := h x List.mem_cons_self
        rw [List.map_cons, List.filterMap_cons, Array.getElem?_eq_getElem hx, List.map_cons, ih fun y hy => h y (List.mem_cons_of_mem _ hy), Array.getElem?_eq_getElem hx]
        rfl
    have hlt : ∀ x ∈ liveOf mask o, x.2 < es.size := fun x hx => L.lt _ _ ((mem_live L.sz (j := x.1) (i := x.2)).mp hx)
    have e : ((((liveOf mask o).map (·.2)).toArray).filterMap (es[·]?)).toList = (liveOf mask o).map fun x => (es[x.2]?).getD default := by
      rw [← picks _ hlt]; simp
    rw [e]
    have hlen : (liveOf mask o).length = es.size := by
      have := hperm.length_eq
      rw [List.length_map, List.length_range] at this
      exact this
    have hocc : ∀ j, j ∈ taken o → j ∈ (liveOf mask o).map (·.1) := fun j hj => by
      obtain ⟨i, e⟩ := mem_taken.mp hj
      exact List.mem_map.mpr ⟨(j, i), (mem_live L.sz).mpr e, rfl⟩
    refine ⟨⟨k, h3, hm⟩, rfl, by simpa using live_ris mask o, fun j hj => ?_, ?_, ?_, fun x hx => ?_⟩
    · have hj' : j ∈ (liveOf mask o).map (·.1) := by simpa using hj
      obtain ⟨x, hx, rfl⟩ := List.mem_map.mp hj'
      obtain ⟨h1, _⟩ := Array.getElem?_eq_some_iff.mp ((mem_live L.sz (j := x.1) (i := x.2)).mp hx)
      rw [L.sz] at h1
      show x.1 ≤ mask
      omega
    · simp
    · show (((liveOf mask o).map (·.1)).toArray).size ≤ mask
      rw [List.size_toArray, List.length_map, hlen]; exact hl
    · have hz : (((liveOf mask o).map (·.1)).toArray).toList.zip (((liveOf mask o).map fun x => (es[x.2]?).getD default).map (·.1)) = (liveOf mask o).map fun x => (x.1, ((es[x.2]?).getD default).1) := by
        simp [List.zip_map', List.map_map]
      have hx' : x ∈ (liveOf mask o).map fun x => (x.1, ((es[x.2]?).getD default).1) := by rw [← hz]; exact hx
      obtain ⟨y, hy, rfl⟩ := List.mem_map.mp hx'
      have e1 := (mem_live L.sz (j := y.1) (i := y.2)).mp hy
      have hi := hlt y hy
      have e2 : (es.map (·.1)).toList[y.2]? = some ((es[y.2]?).getD default).1 := by
        rw [Array.getElem?_eq_getElem hi]
        simp [hi]
      obtain ⟨q, q1, q2⟩ := L.reach y.1 y.2 _ e1 e2
      refine ⟨q, q1, fun m hm' => ?_⟩
      have := hocc _ (q2 m hm')
      simpa using this
end ST

/-! A set of tuples: what an addition does. -/
namespace PySem
section
variable {prog : Program} {w : World} {K : Type} [DecidableEq K] (knd : KeyKind prog w K)
def ElT (h : Heap) (k : List K) (e : Int × Value) : Prop := ∃ b, e.2 = .ref b ∧ IsTupleKey knd h k b ∧ e.1 = tupleKeyHash knd k
def Heap.TupSet (h : Heap) (a : Addr) (S : List K → Bool) (n : Nat) : Prop :=
  ∃ o es ep t, h.get? a = some o ∧ o.ExactSet ∧ o.data = .set es ep t ∧ ST.Good t (es.toList.map (·.1)) ∧ (∀ e ∈ es.toList, ∃ k, ElT knd h k e) ∧ (∀ k, S k = true ↔ ∃ e ∈ es.toList, ElT knd h k e)
    ∧ es.size = n ∧ t.place.size * 5 < t.mask * 3 ∧ (t.mask < 8 ∨ t.mask < 8 * n)
variable {knd} {A : Around} {E : Value → Shared → Prop} {s : Shared}
theorem ElT.inj {h : Heap} {k k' : List K} {e : Int × Value} (x : ElT knd h k e) (y : ElT knd h k' e) : k = k' := by
  obtain ⟨b, e1, t1, _⟩ := x
  obtain ⟨b', e2, t2, _⟩ := y
  rw [e1] at e2; cases e2
  exact t1.inj t2
theorem IsTupleKey.but {h h' : Heap} {ks : List K} {a d : Addr} {o : Obj} {es ep t} (x : IsTupleKey knd h ks a) (ho : h.get? d = some o) (hd : o.data = .set es ep t) (hs : Heap.SameBut d h h') : IsTupleKey knd h' ks a := by
  obtain ⟨o', items, n, ho', hc, hd', hi⟩ := x
  have hne : a ≠ d := by
    rintro rfl
    obtain rfl : o' = o := Option.some.inj (ho'.symm.trans ho)
    rw [hd] at hd'; exact nomatch hd'
  exact ⟨o', items, n, (hs.2 a hne).trans ho', hc, hd', hi⟩
theorem ElT.but {h h' : Heap} {k : List K} {e : Int × Value} {d : Addr} {o : Obj} {es ep t} (x : ElT knd h k e) (ho : h.get? d = some o) (hd : o.data = .set es ep t) (hs : Heap.SameBut d h h') : ElT knd h' k e :=
  let ⟨b, e1, e2, e3⟩ := x; ⟨b, e1, e2.but ho hd hs, e3⟩
theorem ofAClass_val {M : Model} (n : Nat) {v : Value} (h : carriedByValue v = true) : ofAClassStatement n v = pure false := by
  cases v <;> first | (cases n <;> rfl) | simp [carriedByValue] at h
theorem wpAny_ofAClass_tuple {ks : List K} {a : Addr} {Q : Bool → Shared → Prop} (hk : IsTupleKey knd s.heap ks a) (h : Q false s) : wpAny (model prog w) A (ofAClassStatement 8 (.ref a)) Q E s := by
  have hT := hk.typeIs
  obtain ⟨o, items, n, ho, _, hd, hi⟩ := hk
  unfold ofAClassStatement
  refine wpAny_bind (wpAny_typeOf hT ?_)
  dsimp only
  rw [if_pos (by decide)]
  refine wpAny_bind (wpAny_pure ?_)
  simp only [Bool.not_true, Bool.false_eq_true, if_false]
  refine wpAny_bind (wpAny_seqItems ho hd ?_)
  dsimp only
  refine wpAny_bind ?_
  rw [← Array.forIn_toList]
  refine wpAny_forIn_list _ (fun rest r s' => r.1 = none ∧ s' = s ∧ ∀ v ∈ rest, carriedByValue v = true) _ ?_ ?_ _ _ ⟨rfl, rfl, hi.byValue⟩
  · rintro v rest r s' ⟨hr, rfl, hall⟩
    rw [ofAClass_val (M := model prog w) _ (hall v List.mem_cons_self)]
    refine wpAny_bind (wpAny_pure ?_)
    simp only [Bool.false_eq_true, if_false]
    exact wpAny_pure ⟨rfl, rfl, fun u hu' => hall u (List.mem_cons_of_mem _ hu')⟩
  · rintro ⟨r1, r2⟩ s' ⟨hr, rfl, _⟩
    simp only at hr
    subst hr
    exact wpAny_pure h
theorem hashByValue_val (n : Nat) {v : Value} (h : carriedByValue v = true) : ∃ c, hashByValue n v = pure c := by
  cases v <;> first | (cases n <;> exact ⟨_, rfl⟩) | simp [carriedByValue] at h
theorem wpAny_hashByValue_tuple {ks : List K} {a : Addr} {Q : Bool → Shared → Prop} (hk : IsTupleKey knd s.heap ks a) (h : ∀ c, Q c s) : wpAny (model prog w) A (hashByValue 8 (.ref a)) Q E s := by
  have hT := hk.typeIs
  obtain ⟨o, items, n, ho, _, hd, hi⟩ := hk
  unfold hashByValue
  refine wpAny_bind (wpAny_specialOf hT F.slot_tuple_hash.lookup ?_)
  dsimp only
  refine wpAny_bind (wpAny_seqItems ho hd ?_)
  refine wpAny_bind ?_
  show wpAny _ _ (forIn items _ _) _ _ s
  rw [← Array.forIn_toList]
  refine wpAny_forIn_list _ (fun rest r s' => r.1 = none ∧ s' = s ∧ ∀ v ∈ rest, carriedByValue v = true) _ ?_ ?_ _ _ ⟨rfl, rfl, hi.byValue⟩
  · rintro v rest r s' ⟨hr, rfl, hall⟩
    obtain ⟨c, hc⟩ := hashByValue_val 7 (hall v List.mem_cons_self)
    rw [hc]
    refine wpAny_bind (wpAny_pure ?_)
    cases c
    · simp only [Bool.not_false, if_true]
      exact wpAny_pure (wpAny_pure (h _))
    · simp only [Bool.not_true, Bool.false_eq_true, if_false]
      exact wpAny_pure ⟨rfl, rfl, fun u hu' => hall u (List.mem_cons_of_mem _ hu')⟩
  · rintro ⟨r1, r2⟩ s' ⟨hr, rfl, _⟩
    simp only at hr
    subst hr
    exact wpAny_pure (h _)
theorem wpAny_notSeen {k : List K} {b : Addr} {Q : Bool → Shared → Prop} (hk : IsTupleKey knd s.heap k b) {l : List Value} (hl : ∀ v ∈ l, ∃ k' b', v = .ref b' ∧ IsTupleKey knd s.heap k' b') (h : Q false s) :
    wpAny (model prog w) A (searchCouldBeSeen (.ref b) l) Q E s := by
  unfold searchCouldBeSeen
  refine wpAny_bind ?_
  refine wpAny_forIn_list _ (fun rest r s' => r.1 = none ∧ s' = s ∧ ∀ v ∈ rest, ∃ k' b', v = .ref b' ∧ IsTupleKey knd s.heap k' b') _ ?_ ?_ _ _ ⟨rfl, rfl, hl⟩
  · rintro v rest r s' ⟨hr, rfl, hall⟩
    obtain ⟨k', b', rfl, hk'⟩ := hall v List.mem_cons_self
    have more : ∀ u ∈ rest, ∃ k' b', u = Value.ref b' ∧ IsTupleKey knd s'.heap k' b' := fun u hu => hall u (List.mem_cons_of_mem _ hu)
    dsimp only
    split
    · exact wpAny_pure ⟨rfl, rfl, more⟩
    · refine wpAny_bind (wpAny_eqIsQuiet_tuple hk ?_)
      simp only [Bool.not_true, Bool.false_eq_true, if_false]
      refine wpAny_bind (wpAny_eqIsQuiet_tuple hk' ?_)
      simp only [Bool.not_true, Bool.false_eq_true, if_false]
      refine wpAny_bind (wpAny_ofAClass_tuple hk ?_)
      simp only [Bool.false_eq_true, if_false]
      refine wpAny_bind (wpAny_ofAClass_tuple hk' ?_)
      simp only [Bool.false_eq_true, if_false]
      exact wpAny_pure ⟨rfl, rfl, more⟩
  · rintro ⟨r1, r2⟩ s' ⟨hr, rfl, _⟩
    simp only at hr
    subst hr
    exact wpAny_pure h
end
end PySem

namespace PySem
section
variable {prog : Program} {w : World} {K : Type} [DecidableEq K] {knd : KeyKind prog w K} {A : Around} {E : Value → Shared → Prop} {s : Shared}
open ST in
theorem wpAny_setSearch_tup {a b : Addr} {k : List K} {o : Obj} {es : Array (Int × Value)} {ep : Nat} {t : SetTable} {Q : SetFound → Shared → Prop} (hu : A.units < cLine) (ho : s.heap.get? a = some o) (hd : o.data = .set es ep t)
    (g : Good t (es.toList.map (·.1))) (hel : ∀ e ∈ es.toList, ∃ k, ElT knd s.heap k e) (hk : IsTupleKey knd s.heap k b) {N : Nat} (hN : pos t.mask (tupleKeyHash knd k) N ∉ t.place.toList) (hO : ∀ m, m < N → pos t.mask (tupleKeyHash knd k) m ∈ t.place.toList)
    (hb : N < 10 * (t.mask + 15)) (hY : (∃ e ∈ es.toList, ElT knd s.heap k e) → Q (.there none) s) (hNo : (∀ e ∈ es.toList, ¬ ElT knd s.heap k e) → Q (.free (pos t.mask (tupleKeyHash knd k) N) false) s) :
    ∀ fuel q (stand : Option SetTable.Probe), N - q < fuel → q ≤ N → stand.getD (t.probeStart (tupleKeyHash knd k)) = itr t.mask q (st t.mask (tupleKeyHash knd k)) →
      ((∃ e ∈ es.toList, ElT knd s.heap k e) → ∃ m i e, q ≤ m ∧ m < N ∧ t.slot (pos t.mask (tupleKeyHash knd k) m) = .live i ∧ es[i]? = some e ∧ ElT knd s.heap k e) →
      wpAny (model prog w) A (setSearchFrom a (.ref b) (tupleKeyHash knd k) true fuel stand) Q E s
  | 0, q, stand, h1, h2, h3, h4 => absurd h1 (Nat.not_lt_zero _)
  | fuel + 1, q, stand, h1, h2, h3, h4 => by
    have hf : t.fits es.size = true := by have := g.fits; simpa using this
    unfold setSearchFrom
    refine wpAny_bind (wpAny_setState_of ho hd hf ?_)
    dsimp only
    rw [g.odd]
    simp only [Bool.false_eq_true, if_false]
    rw [h3]
    unfold SetTable.probe
    rcases probe_go g (tupleKeyHash knd k) hN hO _ (10 * SetTable.turns t.mask) q h2 (by unfold SetTable.turns; omega) with ⟨e, all⟩ | ⟨m, i, a1, a2, a3, a4, a5, a6⟩
    · rw [e]
      dsimp only
      refine wpAny_pure (hNo fun e he hk' => ?_)
      obtain ⟨m, i, e', b1, b2, b3, b4, b5⟩ := h4 ⟨e, he, hk'⟩
      refine all m i b1 b2 b3 ?_
      show (es[i]?.map (·.1)).getD 0 = _
      rw [b4]
      obtain ⟨_, _, _, z⟩ := b5
      exact z
    · rw [a5]
      dsimp only
      obtain ⟨pi, hpi, hsl⟩ := slot_mem g.ris (hO m a2)
      rw [a3] at hsl
      cases hsl
      have hi : i < es.size := by
        have := (Array.getElem?_eq_some_iff.mp hpi).1
        rw [g.len] at this
        simpa using this
      have hei : es[i]? = some es[i] := Array.getElem?_eq_getElem hi
      have hmem : es[i] ∈ es.toList := by simp
      obtain ⟨k', b', eb, hk', hh'⟩ := hel _ hmem
      have key : ∀ U Y : Sem SetFound, wpAny (model prog w) A Y Q E s → wpAny (model prog w) A (if (!t.led) = true then do
          let c ← searchCouldBeSeen (Value.ref b) (List.map (fun x => x.snd) (Array.filter (fun x => x.fst == tupleKeyHash knd k) es).toList)
          if c = true then U else Y
        else Y) Q E s := fun U Y q' => by
        split
        · refine wpAny_bind (wpAny_notSeen hk (fun v hv => ?_) ?_)
          · obtain ⟨e, he, rfl⟩ := List.mem_map.mp hv
            have he' : e ∈ es := by
              simp at he
              exact he.1
            obtain ⟨k'', b'', e1, e2, _⟩ := hel e (by simpa using he')
            exact ⟨k'', b'', e1, e2⟩
          · simp only [Bool.false_eq_true, if_false]
            exact q'
        · exact q'
      refine key _ _ ?_
      rw [hei]
      dsimp only
      rw [eb]
      refine wpAny_bind (wpAny_holding (wpAny_eqBool_tuple hu hk' hk ?_))
      refine wpAny_bind (wpAny_setState_of ho hd hf ?_)
      dsimp only
      by_cases c : k' = k
      · subst c
        rw [decide_eq_true rfl]
        simp only [Bool.and_self, if_true]
        exact wpAny_pure (hY ⟨_, hmem, b', eb, hk', hh'⟩)
      · rw [decide_eq_false c]
        simp only [Bool.and_false, Bool.false_eq_true, if_false]
        have hsm : t.sameMemory t.moves t.mask = some true := by unfold SetTable.sameMemory; simp
        rw [hsm]
        dsimp only
        rw [if_pos rfl, a3]
        dsimp only
        rw [hei]
        dsimp only
        rw [eb]
        refine wpAny_bind (wpAny_isSame_ref_self ?_)
        rw [if_pos rfl]
        refine wpAny_bind (wpAny_pure ?_)
        dsimp only
        refine wpAny_setSearch_tup hu ho hd g hel hk hN hO hb hY hNo fuel (m + 1) (some _) (by omega) (by omega) rfl fun hx => ?_
        obtain ⟨m', i', e', b1, b2, b3, b4, b5⟩ := h4 hx
        refine ⟨m', i', e', ?_, b2, b3, b4, b5⟩
        rcases Nat.lt_trichotomy m' m with z | z | z
        · refine absurd ?_ (a6 m' i' b1 z b3)
          show (es[i']?.map (·.1)).getD 0 = _
          rw [b4]
          obtain ⟨_, _, _, z'⟩ := b5
          exact z'
        · subst z
          rw [a3] at b3; cases b3
          rw [hei] at b4; cases b4
          exact absurd (ElT.inj ⟨b', eb, hk', hh'⟩ b5) c
        · omega
end
end PySem

namespace PySem
section
variable {prog : Program} {w : World} {K : Type} [DecidableEq K] {knd : KeyKind prog w K} {A : Around} {E : Value → Shared → Prop} {s : Shared}
theorem wpAny_setRelay {a : Addr} {o : Obj} {es : Array (Int × Value)} {ep : Nat} {t : SetTable} {wanted : Nat} {Q : Unit → Shared → Prop} (ho : s.heap.get? a = some o) (hd : o.data = .set es ep t)
    (hf : t.fits es.size = true) (hw : wanted < 100000) (hw2 : 4 * es.size ≤ wanted)
    (h : ∀ es' t', List.Perm es'.toList es.toList → ST.Good t' (es'.toList.map (·.1)) → wanted < t'.mask + 1 → (t'.mask + 1 = 8 ∨ t'.mask + 1 ≤ 2 * wanted) → Q () { s with heap := s.heap.update a (Obj.putSet es' t') }) :
    wpAny (model prog w) A (setRelay a wanted) Q E s := by
  obtain ⟨k, h3, e, lt, le⟩ := ST.sizeAbove_spec (w := wanted) (Nat.lt_of_lt_of_le hw (by decide))
  unfold setRelay
  refine wpAny_bind (wpAny_setState_of ho hd hf ?_)
  dsimp only
  have hsl : ¬ SetTable.sizeAbove wanted > sizeLine := by
    rw [e, sizeLine_eq]
    rcases le with z | z <;> omega
  rw [if_neg hsl]
  have hpos : 0 < 2 ^ k := Nat.two_pow_pos k
  have hm : (2 ^ k - 1) + 1 = 2 ^ k := by omega
  obtain ⟨t', order, el, em, perm, good⟩ := ST.laid_good h3 hm (es := es) (by omega) t.finger (t.movedTo (2 ^ k - 1)) t.led t.plain
  have er : t.relaid (es.map (·.1)) wanted = some (t', order) := by
    unfold SetTable.relaid
    rw [e]; exact el
  rw [er]
  have hsz : (order.filterMap (es[·]?)).size = es.size := by
    rw [← Array.length_toList, perm.length_eq, Array.length_toList]
  show wpAny (model prog w) A ((do
      let es' := order.filterMap (es[·]?)
      if es'.size != es.size then unsupported "internal:set-table-lost-an-element"
      pure (es', t')) >>= fun x => storeSet a x.1 x.2) Q E s
  dsimp only
  rw [hsz]
  simp only [bne_self_eq_false, Bool.false_eq_true, if_false]
  refine wpAny_bind (wpAny_pure ?_)
  refine wpAny_storeSet_of ho hd (h _ _ perm good (by rw [em, hm]; exact lt) (by rw [em, hm]; exact le)) ?_
  rw [hsz, sizeLine_eq]; omega
theorem TupSet_store {h : Heap} {a : Addr} {o : Obj} {es : Array (Int × Value)} {ep : Nat} {t : SetTable} (ho : h.get? a = some o) (hex : o.ExactSet) (hd : o.data = .set es ep t) (es' : Array (Int × Value)) (t' : SetTable) :
    (h.update a (Obj.putSet es' t')).get? a = some { o with data := .set es' (ep + 1) t' } ∧ Heap.SameBut a h (h.update a (Obj.putSet es' t')) ∧ ({ o with data := .set es' (ep + 1) t' } : Obj).ExactSet := by
  have hg : (h.update a (Obj.putSet es' t')).get? a = some { o with data := .set es' (ep + 1) t' } := by
    have := Heap.get?_update_self (Obj.putSet es' t') ho (by rw [putSet_of es' t' hd]; rfl)
    rw [putSet_of es' t' hd] at this; exact this
  exact ⟨hg, Heap.SameBut.update h a _, hex⟩
open ST in
theorem wpAny_setAdd_tup {a b : Addr} {k : List K} {S : List K → Bool} {n : Nat} {Q : Bool → Shared → Prop} (hu : A.units < cLine) (hS : s.heap.TupSet knd a S n) (hk : IsTupleKey knd s.heap k b) (hroom : n < 1000)
    (h : ∀ h', Heap.SameBut a s.heap h' → h'.TupSet knd a (fun k' => S k' || decide (k' = k)) (if S k then n else n + 1) → Q (!S k) { s with heap := h' }) :
    wpAny (model prog w) A (setAddHashed a (.ref b) (tupleKeyHash knd k)) Q E s := by
  obtain ⟨o, es, ep, t, ho, hex, hd, g, hel, hmem, hn, hfull, hmask⟩ := hS
  have hf : t.fits es.size = true := by have := g.fits; simpa using this
  have hps : t.place.size = es.size := by have := g.len; simpa using this
  unfold setAddHashed
  refine wpAny_holding ?_
  unfold setAddHashedIn
  refine wpAny_bind (wpAny_setState_of ho hd hf ?_)
  dsimp only
  rw [show byScan (.ref b) es = false from rfl]
  simp only [Bool.false_eq_true, if_false]
  obtain ⟨N, hN1, hN2, hN3⟩ := g.free (tupleKeyHash knd k)
  refine wpAny_bind ?_
  unfold setSearch
  refine wpAny_setSearch_tup hu ho hd g hel hk hN2 hN3 (by omega) (fun hx => ?_) (fun hx => ?_) 100000 0 none (by rcases hmask with z | z <;> omega) (Nat.zero_le _) rfl (fun ⟨e, he, hke⟩ => ?_)
  · -- it is there
    dsimp only
    have hSk : S k = true := (hmem k).mpr hx
    refine wpAny_pure ?_
    have := h s.heap (Heap.SameBut.refl a s.heap) ⟨o, es, ep, t, ho, hex, hd, g, hel, fun k' => by
      rw [Bool.or_eq_true, decide_eq_true_eq, ← hmem k']
      exact ⟨fun hk => hk.elim id (fun e => e ▸ hSk), .inl⟩, by rw [hSk]; exact hn, hfull, by rw [hSk]; exact hmask⟩
    rw [hSk] at this
    exact this
  · -- it is new
    dsimp only
    have hSk : S k = false := by
      cases hc : S k with
      | false => rfl
      | true => obtain ⟨e, he, hp⟩ := (hmem k).mp hc; exact absurd hp (hx e he)
    rw [hSk] at h
    refine wpAny_bind (wpAny_setState_of ho hd hf ?_)
    dsimp only
    have hplain : ∀ Y : Bool → Sem Bool, (∀ c, wpAny (model prog w) A (Y c) Q E s) → wpAny (model prog w) A (if (t.put (pos t.mask (tupleKeyHash knd k) N)).1.plain = true then (hashByValue 8 (.ref b) >>= Y) else (pure true >>= Y)) Q E s := fun Y hR => by
      split
      · exact wpAny_bind (wpAny_hashByValue_tuple hk hR)
      · exact wpAny_bind (wpAny_pure (hR true))
    refine hplain _ fun c => ?_
    generalize hT : (if c = true then (t.put (pos t.mask (tupleKeyHash knd k) N)).1 else { (t.put (pos t.mask (tupleKeyHash knd k) N)).1 with plain := false }) = T
    have hr : t.place.size < t.mask := by omega
    have hTg : ∃ pl, T = { (t.put (pos t.mask (tupleKeyHash knd k) N)).1 with plain := pl } := by
      cases c
      · exact ⟨false, by rw [← hT]; rfl⟩
      · exact ⟨(t.put (pos t.mask (tupleKeyHash knd k) N)).1.plain, by rw [← hT]; rfl⟩
    obtain ⟨pl, hTe⟩ := hTg
    have g1 := g.put hN2 hN3 hr pl
    rw [← hTe] at g1
    generalize hES : SetTable.insertAt es (t.put (pos t.mask (tupleKeyHash knd k) N)).2 (tupleKeyHash knd k, Value.ref b) = ES
    have hESl : ES.toList = insL es.toList (SetTable.below t.place (pos t.mask (tupleKeyHash knd k) N)) (tupleKeyHash knd k, Value.ref b) := by
      rw [← hES]; exact toList_insertAt _ _ _
    have hESm : ES.toList.map (·.1) = insL (es.toList.map (·.1)) (SetTable.below t.place (pos t.mask (tupleKeyHash knd k) N)) (tupleKeyHash knd k) := by
      rw [hESl]; unfold insL; simp [List.map_take, List.map_drop]
    rw [← hESm] at g1
    have hESp : ES.toList.Perm ((tupleKeyHash knd k, Value.ref b) :: es.toList) := by rw [hESl]; exact insL_perm _ _ _
    have hESz : ES.size = n + 1 := by
      have := hESp.length_eq
      simp at this; omega
    have hTm : T.mask = t.mask := by rw [hTe]; rfl
    have hTp : T.place.size = n + 1 := by have := g1.len; simp at this; omega
    have hTd : T.dummies.size = 0 := by rw [g1.dum]; rfl
    have hSL : ES.size ≤ sizeLine := by rw [hESz, sizeLine_eq]; omega
    obtain ⟨ho1, hsb1, hex1⟩ := TupSet_store ho hex hd ES T
    refine wpAny_bind (wpAny_storeSet_of ho hd ?_ hSL)
    have hnew : ElT knd s.heap k (tupleKeyHash knd k, Value.ref b) := ⟨b, rfl, hk, rfl⟩
    have elems : ∀ (L : List (Int × Value)) (h' : Heap), L.Perm ((tupleKeyHash knd k, Value.ref b) :: es.toList) → Heap.SameBut a s.heap h' → (∀ e ∈ L, ∃ k, ElT knd h' k e) ∧ ∀ k', (S k' || decide (k' = k)) = true ↔ ∃ e ∈ L, ElT knd h' k' e := fun L h' hp hs => by
      have old : ∀ e ∈ es.toList, ∃ k', ElT knd s.heap k' e ∧ ElT knd h' k' e := fun e he => by
        obtain ⟨k', z⟩ := hel e he
        exact ⟨k', z, z.but ho hd hs⟩
      refine ⟨fun e he => ?_, fun k' => ?_⟩
      · rcases List.mem_cons.mp (hp.mem_iff.mp he) with rfl | he
        · exact ⟨k, hnew.but ho hd hs⟩
        · obtain ⟨k', _, z⟩ := old e he; exact ⟨k', z⟩
      · rw [Bool.or_eq_true, decide_eq_true_eq, hmem k']
        constructor
        · rintro (⟨e, he, z⟩ | rfl)
          · exact ⟨e, hp.mem_iff.mpr (List.mem_cons_of_mem _ he), z.but ho hd hs⟩
          · exact ⟨_, hp.mem_iff.mpr List.mem_cons_self, hnew.but ho hd hs⟩
        · rintro ⟨e, he, z⟩
          rcases List.mem_cons.mp (hp.mem_iff.mp he) with rfl | he
          · exact .inr (z.inj (hnew.but ho hd hs))
          · obtain ⟨k'', z1, z2⟩ := old e he
            have := z.inj z2
            subst this
            exact .inl ⟨e, he, z1⟩
    by_cases hfl : T.tooFull = true
    · rw [hfl]
      simp only [Bool.not_false, Bool.and_self, if_true]
      have hgr : SetTable.grown (es.size + 1) = 4 * (n + 1) := by unfold SetTable.grown; rw [if_neg (by omega)]; omega
      rw [hgr]
      refine wpAny_bind (wpAny_setRelay ho1 rfl (by have := g1.fits; simpa using this) (by omega) (by omega) fun es' t' hp hg hw hle => ?_)
      obtain ⟨ho2, hsb2, hex2⟩ := TupSet_store ho1 hex1 rfl es' t'
      have hsb : Heap.SameBut a s.heap ((s.heap.update a (Obj.putSet ES T)).update a (Obj.putSet es' t')) := hsb1.trans hsb2
      obtain ⟨x1, x2⟩ := elems es'.toList _ (hp.trans hESp) hsb
      have hz' : es'.size = n + 1 := by have := hp.length_eq; simp at this; omega
      have hp' : t'.place.size = n + 1 := by have := hg.len; simp at this; omega
      refine wpAny_pure (h _ hsb ⟨_, es', _, t', ho2, hex2, rfl, hg, x1, x2, ?_, ?_, ?_⟩)
      · simp only [Bool.false_eq_true, if_false]; exact hz'
      · rw [hp']; omega
      · simp only [Bool.false_eq_true, if_false]; omega
    · rw [Bool.not_eq_true] at hfl
      rw [hfl]
      simp only [Bool.and_false, Bool.false_eq_true, if_false]
      obtain ⟨x1, x2⟩ := elems ES.toList _ hESp hsb1
      have hnf : T.place.size * 5 < T.mask * 3 := by
        unfold SetTable.tooFull SetTable.fill at hfl
        rw [hTd] at hfl
        simp at hfl
        omega
      refine wpAny_pure (h _ hsb1 ⟨_, ES, _, T, ho1, hex1, rfl, g1, x1, x2, ?_, hnf, ?_⟩)
      · simp only [Bool.false_eq_true, if_false]; exact hESz
      · simp only [Bool.false_eq_true, if_false]; rw [hTm]; omega
  · -- where it would be met
    obtain ⟨i, hi, ei⟩ := List.getElem_of_mem he
    have hi' : i < es.size := by simpa using hi
    have hpi : i < t.place.size := by omega
    have hz : (t.place[i], e.1) ∈ t.place.toList.zip (es.toList.map (·.1)) := by
      refine List.mem_iff_getElem.mpr ⟨i, ?_, ?_⟩
      · simp; omega
      · simp [← ei]
    obtain ⟨q, q1, q2⟩ := g.reach _ hz
    have eh : e.1 = tupleKeyHash knd k := let ⟨_, _, _, z⟩ := hke; z
    dsimp only at q1 q2
    rw [eh] at q1 q2
    have hmemq : pos t.mask (tupleKeyHash knd k) q ∈ t.place.toList := by rw [q1]; simp
    have hqN : q < N := by
      rcases Nat.lt_trichotomy q N with z | z | z
      · exact z
      · subst z; exact absurd hmemq hN2
      · exact absurd (q2 N z) hN2
    refine ⟨q, i, e, Nat.zero_le _, hqN, ?_, ?_, hke⟩
    · rw [q1]; exact slot_live g.ris (Array.getElem?_eq_getElem hpi)
    · rw [← ei]; simp [hi']
end
end PySem

/-! set(xs): the new set, filled one by one. -/
namespace PySem
abbrev newSetO (led : Bool) : Obj := { cls := .type "set", dict := none, data := .set #[] 0 (.fresh 0 0 led) }
section
variable {prog : Program} {w : World} {A : Around} {E : Value → Shared → Prop} {s : Shared}
set_option maxRecDepth 100000 in
set_option maxHeartbeats 3200000 in
theorem call_set_any {x : Value} {Q : Value → Shared → Prop}
    (up : ∀ (led : Bool) (E' : Value → Shared → Prop), wpAny (model prog w) A.in1.in1 (Builtin.Frozenset.updateFrom "set.__init__" s.heap.objs.size x) (fun _ s2 => Q (.ref s.heap.objs.size) s2) E' { s with heap := s.heap.push (newSetO led) }) :
    wpAny (model prog w) A (call (.type "set") [x]) Q E s := by
  obtain ⟨c0, tl0, hm0⟩ := F.called_set.mro
  have made0 := F.called_set.made
  have sub0 := F.called_set.sub
  refine wpAny_call (codeAny_of_tree ?_)
  show wpAny _ _ (callAny (.type "set") _) _ _ _
  refine wpAny_pure ⟨Code.quiet_builtin _ (by decide +kernel), codeAny_builtin F.entry_type_call ?_⟩
  rw [Around.under_plain (weight_type_call_type "set" [x] []) rfl]
  have n0 := F.called_set.notType
  have n1 := F.called_set.canCreate
  have ct0 := F.typeCall_set_1 x
  repeat (any_goals (first | assumption | wp_step))
  refine codeAny_mono (code_set_new_1 x (E := E) (Q₁ := fun v s1 => ∃ led : Bool, v = .ref s.heap.objs.size ∧ s1 = { s with heap := s.heap.push (newSetO led) }) fun led => ⟨led, rfl, rfl⟩) fun r0 s0 hr0 => ?_
  cases r0 with
  | error e => exact hr0
  | ok f0 =>
    cases f0 with
    | ret v0 =>
      obtain ⟨led, rfl, rfl⟩ := hr0
      have hS0 : (s.heap.push (newSetO led)).get? s.heap.objs.size = some (newSetO led) := Heap.get?_push_size _ rfl
      have hT0 : Shared.TypeIs { s with heap := s.heap.push (newSetO led) } (.ref s.heap.objs.size) "set" := ⟨_, hS0, rfl⟩
      have li0 := F.called_set.init.lookup
      have bi0 := F.called_set.init.bind (.ref s.heap.objs.size)
      repeat (any_goals (first | assumption | wp_step))
      refine codeAny_mono (codeAny_call_builtin (R := wants (fun r s2 => r = .none ∧ Q (.ref s.heap.objs.size) s2) E) F.called_set.init.plain F.entry_set_init (check_set_init_1 hT0 ?_)) fun r1 s1 hr1 => ?_
      · unfold Builtin.«set.__init__» noKeywords
        have up0 := up led
        generalize Builtin.Frozenset.updateFrom = UF at up0 ⊢
        wp_walk
        refine wpAny_mono (up0 _) (fun _ s2 hq => ?_) fun _ _ e => e
        first | exact wpAny_pure ⟨rfl, hq⟩ | exact wpAny_pure (wpAny_pure ⟨rfl, hq⟩) | exact wpAny_bind (wpAny_pure (wpAny_pure ⟨rfl, hq⟩))
      · cases r1 with
        | error e => exact hr1
        | ok f1 =>
          cases f1 with
          | ret r =>
            obtain ⟨rfl, hq⟩ := hr1
            repeat (any_goals (first | assumption | wp_step))
          | _ => exact hr1.elim
    | _ => exact hr0.elim
end
end PySem

namespace PySem
section
variable {prog : Program} {w : World} {B : Around} {E : Value → Shared → Prop} {s : Shared}
theorem set_loop {R : Result → Shared → Prop} {I : Addr} {fp wr : List Addr} {n : Nat} {P : Nat → Value → Prop} {St : Nat → Heap → Prop} (W : Walks prog w B.in1 I fp wr n P St) (S : Addr) (hSf : S ∉ fp) (Sx : Nat → Heap → Prop)
    (keep : ∀ i j h h', St j h → Sx i h → (∀ b o, b ∉ wr → h.get? b = some o → h'.get? b = some o) → Sx i h')
    (add : ∀ i v (s' : Shared) (Q : Bool → Shared → Prop) (E' : Value → Shared → Prop), i < n → P i v → Sx i s'.heap → (∀ h' tk c, Heap.SameBut S s'.heap h' → Sx (i + 1) h' → Q c { s' with heap := h', toks := tk }) → wpAny (model prog w) B.in1 (setAdd S v) Q E' s') :
    ∀ (k i : Nat) (s : Shared), n - i = k → i ≤ n → St i s.heap → Sx i s.heap →
      (∀ h' tk, (∀ b o, b ∉ wr → b ≠ S → s.heap.get? b = some o → h'.get? b = some o) → Sx n h' → R (.ok (.ret .none)) { s with heap := h', toks := tk }) →
      codeAny (model prog w) B (.builtin "set.update.loop" ⟨[.ref S, .ref I], []⟩) R s := by
  intro k
  induction k with
  | zero =>
    intro i s hk hi st sx hR
    obtain rfl : i = n := by omega
    refine codeAny_builtin PyProof.Rows.F.entry_set_update_loop ?_
    rw [Around.under_plainId PyProof.Rows.F.plain_set_update_loop _]
    show wpAny _ B.in1 (pyNext (.ref I) >>= _) _ _ s
    refine wpAny_bind (W.done s _ _ st fun h' tk hm => ?_)
    show wpAny _ B.in1 (ret Value.none) _ _ _
    exact wpAny_pure (hR h' tk (fun b o hb _ e => hm b o hb e) (keep _ _ _ _ st sx hm))
  | succ k ih =>
    intro i s hk hi st sx hR
    have hlt : i < n := by omega
    refine codeAny_builtin PyProof.Rows.F.entry_set_update_loop ?_
    rw [Around.under_plainId PyProof.Rows.F.plain_set_update_loop _]
    show wpAny _ B.in1 (pyNext (.ref I) >>= _) _ _ s
    refine wpAny_bind (W.item i s _ _ hlt st fun v h1 t1 hP st1 hm => ?_)
    have sx1 : Sx i h1 := keep _ _ _ _ st sx hm
    show wpAny _ B.in1 (holding [v] (setAdd S v) >>= _) _ _ _
    refine wpAny_bind (wpAny_holding (add i v _ _ _ hlt hP sx1 fun h2 t2 c hsb sx2 => ?_))
    refine wpAny_pure ⟨plainId_quiet PyProof.Rows.F.plain_set_update_loop _, ih (i + 1) _ (by omega) hlt (W.frame _ _ _ st1 fun b hb o e => ?_) sx2 fun h3 t3 hk3 sx3 => ?_⟩
    · show h2.get? b = some o
      rw [hsb.2 b (fun z : b = S => hSf (by rw [← z]; exact hb))]; exact e
    · refine hR h3 t3 (fun b o hb hS e => hk3 b o hb hS ?_) sx3
      show h2.get? b = some o
      rw [hsb.2 b hS]; exact hm b o hb e
set_option maxRecDepth 100000 in
set_option maxHeartbeats 3200000 in
theorem updateFrom_list {id : String} {a l : Addr} {items : Array Value} {Q : Unit → Shared → Prop} (hh : B.handled = none) (hl : s.heap.IsList l items) (hal : a ≠ l) (has : a < s.heap.objs.size) (Sx : Nat → Heap → Prop) (start : Sx 0 s.heap)
    (keep : ∀ i (h h' : Heap), (∃ o, h.get? s.heap.objs.size = some o ∧ o.cls = .type "list_iterator") → Sx i h → (∀ b o, b ≠ s.heap.objs.size → h.get? b = some o → h'.get? b = some o) → Sx i h')
    (keep0 : ∀ (h' : Heap), (∀ b o, s.heap.get? b = some o → h'.get? b = some o) → Sx 0 h')
    (add : ∀ i v (s' : Shared) (Q : Bool → Shared → Prop) (E' : Value → Shared → Prop), items[i]? = some v → Sx i s'.heap → (∀ h' tk c, Heap.SameBut a s'.heap h' → Sx (i + 1) h' → Q c { s' with heap := h', toks := tk }) → wpAny (model prog w) B.in1 (setAdd a v) Q E' s')
    (fin : ∀ h' tk, Sx items.size h' → (∀ b o, b < s.heap.objs.size → b ≠ a → s.heap.get? b = some o → h'.get? b = some o) → Q () { s with heap := h', toks := tk }) :
    wpAny (model prog w) B (Builtin.Frozenset.updateFrom id a (.ref l)) Q E s := by
  obtain ⟨ol, hol, hcl, nl, hdl⟩ := hl
  obtain ⟨oc, od, odt, os⟩ := ol
  simp only at hcl hdl
  subst hcl; subst hdl
  have sl0 := F.sub_list_set
  have sl1 := F.sub_list_frozenset
  have ne0 : (Value.type "list" == Value.type "dict") = false := by decide
  have hl1 : s.heap.IsList l items := ⟨_, hol, rfl, nl, rfl⟩
  unfold Builtin.Frozenset.updateFrom
  generalize hPI : pyIter = PI
  wp_walk
  subst hPI
  refine wpAny_pyIter_list hl1 ?_
  refine wpAny_bind (wpAny_runValue ?_)
  have hlt : l < s.heap.objs.size := Heap.lt_size hol
  refine set_loop (Walks.list (by simp [hh]) _ l (Nat.ne_of_lt hlt) items) a ?_ Sx ?_ (fun i v s' Q E' _ hv sx hq => add i v s' Q E' hv sx hq) (items.size - 0) 0 _ rfl (Nat.zero_le _) ?_ ?_ ?_
  · simp only [List.mem_cons, List.not_mem_nil, or_false, not_or]
    exact ⟨Nat.ne_of_lt has, hal⟩
  · intro i j h h' st sx hk
    obtain ⟨⟨o, e, c, _⟩, _⟩ := st
    exact keep i h h' ⟨o, e, c⟩ sx fun b o hb e => hk b o (by simpa using hb) e
  · exact ⟨⟨_, Heap.get?_push_size _ rfl, rfl, rfl⟩, hl1.push _⟩
  · exact keep0 _ fun b o e => Heap.get?_push_of_some _ e
  · intro h' tk hk sx
    refine wpAny_pure ?_
    refine fin h' tk sx fun b o hb hba e => hk b o ?_ hba (Heap.get?_push_of_some _ e)
    simp only [List.mem_cons, List.not_mem_nil, or_false]
    exact Nat.ne_of_lt hb
end
end PySem

namespace L3
open PySem PySem.Spec PyProof.Rows L2
def ndist {κ : Type} [DecidableEq κ] : List κ → Nat
  | [] => 0
  | x :: xs => if x ∈ xs then ndist xs else ndist xs + 1
theorem ndist_le {κ : Type} [DecidableEq κ] : ∀ xs : List κ, ndist xs ≤ xs.length
  | [] => Nat.le_refl _
  | x :: xs => by
    have := ndist_le xs
    rw [ndist]
    split <;> simp only [List.length_cons] <;> omega
theorem ndist_nodup {κ : Type} [DecidableEq κ] : ∀ xs : List κ, ndist xs = xs.length ↔ xs.Nodup
  | [] => by simp [ndist]
  | x :: xs => by
    have := ndist_le xs
    rw [List.nodup_cons, ← ndist_nodup xs, ndist]
    split
    · rename_i h
      simp only [List.length_cons, h, not_true, false_and, iff_false]; omega
    · rename_i h
      simp only [List.length_cons, h, not_false_eq_true, true_and]; omega
def memD {κ : Type} [DecidableEq κ] (x : κ) (xs : List κ) : Bool := decide (x ∈ xs)
theorem memD_nil {κ : Type} [DecidableEq κ] (x : κ) : memD x [] = false := by simp [memD]
theorem memD_cons {κ : Type} [DecidableEq κ] (x y : κ) (xs : List κ) : memD x (y :: xs) = (memD x xs || decide (x = y)) := by
  unfold memD
  by_cases c : x = y <;> simp [c]
theorem ndist_cons {κ : Type} [DecidableEq κ] (x : κ) (xs : List κ) : ndist (x :: xs) = if memD x xs then ndist xs else ndist xs + 1 := by
  rw [ndist]; simp only [memD, decide_eq_true_eq]
theorem take_rev {κ : Type} {ks : List κ} {i : Nat} {k : κ} (h : ks[i]? = some k) : (ks.take (i + 1)).reverse = k :: (ks.take i).reverse := by
  obtain ⟨hi, e⟩ := List.getElem?_eq_some_iff.mp h
  rw [List.take_succ_eq_append_getElem hi, List.reverse_append, e]; rfl
def sizeIs (a : Addr) (n : Nat) : Heap → Prop := fun h => ∃ o es ep t, h.get? a = some o ∧ o.ExactSet ∧ o.data = .set es ep t ∧ t.fits es.size = true ∧ es.size = n
abbrev SetN (a : Addr) (n : Nat) : HO := .ext (sizeIs a n)
theorem sizeIs_ok {P : Program} {w : World} {H : Hp} {h : Heap} {a : Addr} {n : Nat} (x : sizeIs a n h) : ObjOk P w H h a (SetN a n) := by
  refine ⟨x, let ⟨o, _, _, _, e, _⟩ := x; ⟨o, e⟩, fun h1 h2 x1 k => ?_⟩
  obtain ⟨o, es, ep, t, e, r⟩ := x1
  exact ⟨o, es, ep, t, k o e, r⟩
section
variable {X : Cx}
def KeyV (K : PySem.W.Frag) (H : Hp) (k : List Key) (v : V) : Prop := ∃ b, v = .ref b ∧ SqT K H b (k.map kV)
theorem keyIs_rel {k : Key} {u : Value} (r : RelV (kV k) u) : keyIs k u = true := by
  cases k with
  | inl i => obtain ⟨t, rfl⟩ := r; exact keyIs_int i t
  | inr x => obtain ⟨t, rfl⟩ := r; exact keyIs_str x t
theorem itemsAre_of {P : Program} {w : World} : ∀ {k : List Key} {us : List Value}, Vals (k.map kV) us → ItemsAre (mixKind P w) k us
  | [], _, r => by cases r; exact .nil
  | x :: xs, _, r => by
    cases r with
    | cons r1 r2 => exact .cons (keyIs_rel r1) (itemsAre_of r2)
theorem tupKey_of {pins : List (Addr × Obj)} {σ : L2.St} {H : Hp} {s : Shared} (I : Inv X pins σ H s) {k : List Key} {b : Addr} (h : SqT X.K H b (k.map kV)) : IsTupleKey (mixKind X.prog X.w) s.heap k b := by
  obtain ⟨its, r, ⟨o, ho, hc, n, hd⟩, _⟩ := I.tuple h
  exact ⟨o, its.toArray, n, ho, hc, hd, by simpa using itemsAre_of r⟩
theorem keys_of {pins : List (Addr × Obj)} {σ : L2.St} {H : Hp} {s : Shared} (I : Inv X pins σ H s) : ∀ {ks : List (List Key)} {ys : List V} {us : List Value}, Paired (KeyV X.K H) ks ys → Vals ys us → ∀ (i : Nat) (v : Value), us[i]? = some v → ∃ k b, ks[i]? = some k ∧ v = Value.ref b ∧ IsTupleKey (mixKind X.prog X.w) s.heap k b
  | _, _, _, .nil, r, i, v, e => by cases r; simp at e
  | k :: ks, y :: ys, _, .cons p ps, r, i, v, e => by
    cases r with
    | cons r1 r2 =>
      cases i with
      | zero =>
        simp at e; subst e
        obtain ⟨b, rfl, q⟩ := p
        cases r1
        exact ⟨k, b, rfl, rfl, tupKey_of I q⟩
      | succ i =>
        obtain ⟨k', b, h1, h2, h3⟩ := keys_of I ps r2 i v (by simpa using e)
        exact ⟨k', b, by simpa using h1, h2, h3⟩
theorem tupSet_new {P : Program} {w : World} {h : Heap} (led : Bool) : (h.push (newSetO led)).TupSet (mixKind P w) h.objs.size (fun _ => false) 0 := by
  refine ⟨_, #[], 0, _, Heap.get?_push_size _ rfl, ⟨rfl, rfl, rfl⟩, rfl, ⟨⟨3, Nat.le_refl _, rfl⟩, rfl, List.Pairwise.nil, (by intro j hj; cases hj), rfl, Nat.zero_le _, (by intro x hx; cases hx)⟩, (by intro e he; cases he), ?_, rfl, (show 0 * 5 < 7 * 3 by decide), .inl (show 7 < 8 by decide)⟩
  intro k
  constructor
  · intro h; cases h
  · rintro ⟨e, he, _⟩; cases he
theorem TupSet.keeps {P : Program} {w : World} {h h' : Heap} {a : Addr} {S : List Key → Bool} {n : Nat} (x : h.TupSet (mixKind P w) a S n) {I : Addr} (hI : ∃ o, h.get? I = some o ∧ o.cls ≠ .type "tuple" ∧ o.cls ≠ .type "set") (k : ∀ b o, b ≠ I → h.get? b = some o → h'.get? b = some o) :
    h'.TupSet (mixKind P w) a S n := by
  obtain ⟨o, es, ep, t, ho, hex, hd, g, hel, hmem, hn, r⟩ := x
  obtain ⟨oI, hI, c1, c2⟩ := hI
  have ha : a ≠ I := by
    rintro rfl
    rw [ho] at hI; cases hI
    exact c2 hex.1
  have tk : ∀ k' b, IsTupleKey (mixKind P w) h k' b → IsTupleKey (mixKind P w) h' k' b := fun k' b ⟨ob, its, m, e1, e2, e3⟩ => by
    refine ⟨ob, its, m, k b ob ?_ e1, e2, e3⟩
    rintro rfl
    rw [e1] at hI; cases hI
    exact c1 e2
  have tkr : ∀ k' b, (∃ k'', IsTupleKey (mixKind P w) h k'' b) → IsTupleKey (mixKind P w) h' k' b → IsTupleKey (mixKind P w) h k' b := fun k' b ⟨k'', z⟩ y => by
    have := (tk k'' b z).inj y
    subst this; exact z
  refine ⟨o, es, ep, t, k a o ha ho, hex, hd, g, fun e he => ?_, fun k' => ?_, hn, r⟩
  · obtain ⟨k', b, e1, e2, e3⟩ := hel e he
    exact ⟨k', b, e1, tk _ _ e2, e3⟩
  · rw [hmem k']
    constructor
    · rintro ⟨e, he, b, e1, e2, e3⟩
      exact ⟨e, he, b, e1, tk _ _ e2, e3⟩
    · rintro ⟨e, he, b, e1, e2, e3⟩
      obtain ⟨k'', b'', f1, f2, f3⟩ := hel e he
      rw [e1] at f1; cases f1
      exact ⟨e, he, b, e1, tkr _ _ ⟨k'', f2⟩ e2, e3⟩
def rSetT (X : Cx) : List V → Hp → VK → Prop := fun xs H Q => ∃ p ys ks, xs = [.ref p] ∧ SqL X.K H p ys ∧ Paired (KeyV X.K H) ks ys ∧ ks.length ≤ 999 ∧ ∀ q, H q = none → Q (.ref q) (upd H q (SetN q (ndist ks.reverse)))
theorem call_setT {k0 : Nat} (hr : Room k0 X.A) (hc : X.calm = true) : CallR X (.type "set") (rSetT X) := by
  intro pins s σ H xs us Q I r h
  obtain ⟨p, ys, ks, rfl, hq, hks, hz, q⟩ := h
  obtain ⟨u, rfl, rx⟩ := vals1 r
  cases rx
  obtain ⟨its, rv, pl, _⟩ := I.list hq
  have hlen : ks.length = its.length := by rw [hks.length, rv.length]
  have hkeys := keys_of I hks rv
  have hlt : p < s.heap.objs.size := by obtain ⟨_, _, e, _⟩ := pl; exact Heap.lt_size e
  refine call_set_any fun led E' => ?_
  refine updateFrom_list (s := { s with heap := s.heap.push (newSetO led) }) (items := its.toArray) (by simp [I.ok.hd hc]) (pl.isList.push _) (Nat.ne_of_gt hlt) (by rw [Heap.size_push]; exact Nat.lt_succ_self _)
    (fun i h => h.TupSet (mixKind X.prog X.w) s.heap.objs.size (fun k : List Key => memD k (ks.take i).reverse) (ndist (ks.take i).reverse) ∧ ∀ (j : Nat) (v : Value) (k : List Key) (b : Addr), its[j]? = some v → v = Value.ref b → ks[j]? = some k → IsTupleKey (mixKind X.prog X.w) h k b) ?_ ?_ ?_ ?_ ?_
  · refine ⟨?_, fun j v k b e1 e2 e3 => ?_⟩
    · have := tupSet_new (P := X.prog) (w := X.w) (h := s.heap) led
      simpa [memD_nil, ndist] using this
    · subst e2
      obtain ⟨k', b', h1, h2, h3⟩ := hkeys j _ e1
      rw [e3] at h1; cases h1; cases h2
      obtain ⟨ob, it, m, e1, r⟩ := h3
      exact ⟨ob, it, m, Heap.get?_push_of_some _ e1, r⟩
  · rintro i h h' ⟨oI, hI, cI⟩ ⟨x1, x2⟩ k
    have nt : oI.cls ≠ .type "tuple" := by rw [cI]; decide
    refine ⟨TupSet.keeps x1 ⟨oI, hI, nt, by rw [cI]; decide⟩ k, fun j v k' b e1 e2 e3 => ?_⟩
    obtain ⟨ob, it, m, f1, f2, f3⟩ := x2 j v k' b e1 e2 e3
    refine ⟨ob, it, m, k b ob ?_ f1, f2, f3⟩
    rintro rfl
    rw [f1] at hI; cases hI
    exact nt f2
  · intro h' k
    have x := tupSet_new (P := X.prog) (w := X.w) (h := s.heap) led
    refine ⟨?_, fun j v k' b e1 e2 e3 => ?_⟩
    · obtain ⟨o, es, ep, t, ho, hex, hd, g, hel, hmem, hn, r⟩ := x
      have hes : es = #[] := Array.eq_empty_of_size_eq_zero hn
      subst hes
      refine ⟨o, #[], ep, t, k _ _ ho, hex, hd, g, (by intro e he; cases he), fun k' => ?_, rfl, r⟩
      simp [memD_nil]
    · subst e2
      obtain ⟨k'', b', h1, h2, h3⟩ := hkeys j _ e1
      rw [e3] at h1; cases h1; cases h2
      obtain ⟨ob, it, m, e1, r⟩ := h3
      exact ⟨ob, it, m, k _ _ (Heap.get?_push_of_some _ e1), r⟩
  · rintro i v s' Q' E'' hv ⟨x1, x2⟩ hq'
    have hv' : its[i]? = some v := by simpa using hv
    obtain ⟨k, b, h1, h2, _⟩ := hkeys i v hv'
    subst h2
    have hkb := x2 i _ k b hv' rfl h1
    have hi : i < ks.length := (List.getElem?_eq_some_iff.mp h1).1
    have hu : X.A.in1.in1.in1.units < cLine := by have := hr.un; show X.A.units + 1 + 1 + 1 < cLine; omega
    unfold setAdd
    refine wpAny_holding (wpAny_bind (wpAny_pyHash_tuple hu hkb ?_))
    have hroom : ndist (ks.take i).reverse < 1000 := by
      have := ndist_le (ks.take i).reverse
      rw [List.length_reverse, List.length_take] at this
      omega
    refine wpAny_setAdd_tup (s := { s' with toks := s'.toks + (k.length + 1) }) hu x1 hkb hroom fun h' hsb hS => ?_
    refine hq' h' _ _ hsb ⟨?_, fun j v k' b' e1 e2 e3 => ?_⟩
    · rw [take_rev h1]
      have e1 : (fun k' => memD k' (k :: (ks.take i).reverse)) = fun k' => memD k' (ks.take i).reverse || decide (k' = k) := funext fun k' => memD_cons _ _ _
      rw [e1, ndist_cons]
      exact hS
    · obtain ⟨o, es, ep, t, ho, _, hd, _⟩ := x1
      exact (x2 j v k' b' e1 e2 e3).but ho hd hsb
  · rintro h' tk ⟨x1, _⟩ hk
    have hsz : its.toArray.size = ks.length := by rw [List.size_toArray, hlen]
    rw [hsz, List.take_length] at x1
    have x3 : sizeIs s.heap.objs.size (ndist ks.reverse) h' := by
      obtain ⟨o, es, ep, t, ho, hex, hd, g, _, _, hn, _⟩ := x1
      exact ⟨o, es, ep, t, ho, hex, hd, by have := g.fits; simpa using this, hn⟩
    refine ⟨.ref s.heap.objs.size, _, I.laid (t' := tk) (fun b o e => ?_) (Nat.le_refl _) (sizeIs_ok x3), rfl, q _ (I.hok.fresh (Nat.le_refl _))⟩
    have hb := Heap.lt_size e
    refine hk b o ?_ (Nat.ne_of_lt hb) (Heap.get?_push_of_some _ e)
    rw [Heap.size_push]; exact Nat.lt_succ_of_lt hb
theorem call_len_set : CallR X (.builtin "len") (fun xs H Q => ∃ a n, xs = [.ref a] ∧ H a = some (SetN a n) ∧ n ≤ 100000 ∧ Q (.int n) H) := by
  intro pins s σ H xs us Q I r h
  obtain ⟨a, n, rfl, ha, hn, q⟩ := h
  obtain ⟨u, rfl, rx⟩ := vals1 r
  cases rx
  obtain ⟨⟨o, es, ep, t, ho, hex, hd, hf, e⟩, _⟩ := (show ObjOk X.prog X.w H s.heap a (SetN a n) from I.hok a _ ha)
  exact PySem.call_len_set ho hex hd hf (by omega) ⟨.int n, H, I.tok _, ⟨_, by rw [e]⟩, q⟩
end
end L3

namespace L3
open PySem PySem.Spec PyProof.Rows L2
section
variable {X : Cx}
theorem keysV : ∀ {ks : List Key} {us : List Value}, Vals (ks.map kV) us → ∀ (i : Nat) (v : Value), us[i]? = some v → ∃ k, ks[i]? = some k ∧ keyIs k v = true ∧ v.scannable = true
  | [], _, r, i, v, e => by cases r; simp at e
  | k :: ks, _, r, i, v, e => by
    cases r with
    | cons r1 r2 =>
      cases i with
      | zero =>
        simp at e; subst e
        refine ⟨k, rfl, keyIs_rel r1, ?_⟩
        cases k with
        | inl i => obtain ⟨t, rfl⟩ := r1; rfl
        | inr x => obtain ⟨t, rfl⟩ := r1; rfl
      | succ i =>
        obtain ⟨k', h1, h2⟩ := keysV r2 i v (by simpa using e)
        exact ⟨k', by simpa using h1, h2⟩
def rSetK (X : Cx) : List V → Hp → VK → Prop := fun xs H Q => ∃ (p : Addr) (ks : List Key), xs = [.ref p] ∧ SqL X.K H p (ks.map kV) ∧ ks.length ≤ 4000 ∧ ∀ q, H q = none → Q (.ref q) (upd H q (SetN q (ndist ks.reverse)))
theorem call_setK (hc : X.calm = true) : CallR X (.type "set") (rSetK X) := by
  intro pins s σ H xs us Q I r h
  obtain ⟨p, ks, rfl, hq, hz, q⟩ := h
  obtain ⟨u, rfl, rx⟩ := vals1 r
  cases rx
  obtain ⟨its, rv, pl, _⟩ := I.list hq
  have hlen : ks.length = its.length := by rw [← rv.length, List.length_map]
  have hkeys := keysV rv
  have hlt : p < s.heap.objs.size := by obtain ⟨_, _, e, _⟩ := pl; exact Heap.lt_size e
  refine call_set_any fun led E' => ?_
  have st0 : (s.heap.push (newSetO led)).SetOf (mixKind X.prog X.w) s.heap.objs.size (fun k => memD k (ks.take 0).reverse) (ndist (ks.take 0).reverse) := by
    refine ⟨_, #[], 0, _, Heap.get?_push_size _ rfl, ⟨rfl, rfl, rfl⟩, rfl, (by intro e he; cases he), fun k => ?_, (by decide), rfl, rfl⟩
    simp [memD_nil]
  refine updateFrom_list (s := { s with heap := s.heap.push (newSetO led) }) (items := its.toArray) (by simp [I.ok.hd hc]) (pl.isList.push _) (Nat.ne_of_gt hlt) (by rw [Heap.size_push]; exact Nat.lt_succ_self _)
    (fun i h => h.SetOf (mixKind X.prog X.w) s.heap.objs.size (fun k => memD k (ks.take i).reverse) (ndist (ks.take i).reverse)) st0 ?_ ?_ ?_ ?_
  · rintro i h h' ⟨oI, hI, cI⟩ ⟨o, es, ep, t, ho, hex, r⟩ k
    refine ⟨o, es, ep, t, k _ o ?_ ho, hex, r⟩
    intro z
    rw [z, hI] at ho; cases ho
    exact absurd (cI.symm.trans hex.1) (by decide)
  · intro h' k
    obtain ⟨o, es, ep, t, ho, r⟩ := st0
    exact ⟨o, es, ep, t, k _ _ ho, r⟩
  · rintro i v s' Q' E'' hv x1 hq'
    obtain ⟨k, h1, h2, h3⟩ := hkeys i v (by simpa using hv)
    have hi : i < ks.length := (List.getElem?_eq_some_iff.mp h1).1
    unfold setAdd
    refine wpAny_holding (wpAny_bind ((mixKind X.prog X.w).pyHash (k := k) h2 ?_))
    have hroom : ndist (ks.take i).reverse + 1 < scanBound := by
      have := ndist_le (ks.take i).reverse
      rw [List.length_reverse, List.length_take] at this
      unfold scanBound; omega
    refine wpAny_setAddHashed_of (knd := mixKind X.prog X.w) (s := { s' with toks := s'.toks + 1 }) h2 h3 x1 hroom fun h' hsb hS => ?_
    refine hq' h' _ _ hsb ?_
    show h'.SetOf (mixKind X.prog X.w) s.heap.objs.size (fun k => memD k (ks.take (i + 1)).reverse) (ndist (ks.take (i + 1)).reverse)
    rw [take_rev h1, ndist_cons, show (fun k' => memD k' (k :: (ks.take i).reverse)) = fun k' => memD k' (ks.take i).reverse || decide (k' = k) from funext fun k' => memD_cons _ _ _]
    exact hS
  · intro h' tk x1 hk
    have hsz : its.toArray.size = ks.length := by rw [List.size_toArray, hlen]
    rw [hsz, List.take_length] at x1
    have x3 : sizeIs s.heap.objs.size (ndist ks.reverse) h' := by
      obtain ⟨o, es, ep, t, ho, hex, hd, _, _, _, hf, hn⟩ := x1
      exact ⟨o, es, ep, t, ho, hex, hd, hf, hn⟩
    refine ⟨.ref s.heap.objs.size, _, I.laid (t' := tk) (fun b o e => ?_) (Nat.le_refl _) (sizeIs_ok x3), rfl, q _ (I.hok.fresh (Nat.le_refl _))⟩
    have hb := Heap.lt_size e
    refine hk b o ?_ (Nat.ne_of_lt hb) (Heap.get?_push_of_some _ e)
    rw [Heap.size_push]; exact Nat.lt_succ_of_lt hb
theorem call_set {k0 : Nat} (hr : Room k0 X.A) (hc : X.calm = true) : CallR X (.type "set") (fun xs H Q => rSetT X xs H Q ∨ rSetK X xs H Q) := CallR.or (call_setT hr hc) (call_setK hc)
end
theorem bt_set : bootBuiltins "set" = some (.type "set") := by decide +kernel
end L3

/-! Marks, steps, scribes in the heap; what stays while lists change. -/
namespace L3
open PySem PySem.Spec PyProof.Rows L2
abbrev Mk := Int × Str
abbrev Stp := Int × Str × Str × Int
def Grow (H H' : Hp) : Prop := ∀ b o, H b = some o → (∀ xs, o ≠ .lst xs) → H' b = some o
theorem Same.grow {H H' : Hp} (g : Same H H') : Grow H H' := fun b o h _ => g b o h
theorem grow_upd {H : Hp} {p : Addr} {xs : List V} (h : H p = some (.lst xs)) (o : HO) : Grow H (upd H p o) := fun b u q n => by
  rw [upd_ne]
  · exact q
  · rintro rfl; rw [h] at q; cases q; exact n xs rfl
theorem grow_new {H : Hp} {p : Addr} (h : H p = none) (o : HO) : Grow H (upd H p o) := Same.grow (same_new h o)
theorem Grow.seqT {K : PySem.W.Frag} {H H' : Hp} {a : Addr} {xs : List V} (e : Grow H H') (h : SqT K H a xs) : SqT K H' a xs := by
  rcases h with (h | ⟨o, h⟩) | h
  · exact .inl (.inl (e _ _ h (by intro _ q; cases q)))
  · exact .inl (.inr ⟨o, e _ _ h (by intro _ q; cases q)⟩)
  · exact .inr h
def MkV (K : PySem.W.Frag) (H : Hp) (m : Mk) (v : V) : Prop := ∃ b, v = .ref b ∧ SqT K H b [.int m.1, .str m.2]
def StV (K : PySem.W.Frag) (H : Hp) (t : Stp) (v : V) : Prop := ∃ b, v = .ref b ∧ SqT K H b [.int t.1, .str t.2.1, .str t.2.2.1, .int t.2.2.2]
theorem MkV.mono {K : PySem.W.Frag} {H H' : Hp} {m : Mk} {v : V} (g : Grow H H') : MkV K H m v → MkV K H' m v := fun ⟨b, e, h⟩ => ⟨b, e, g.seqT h⟩
theorem StV.mono {K : PySem.W.Frag} {H H' : Hp} {m : Stp} {v : V} (g : Grow H H') : StV K H m v → StV K H' m v := fun ⟨b, e, h⟩ => ⟨b, e, g.seqT h⟩
theorem paired_mono {α β : Type} {F G : α → β → Prop} (h : ∀ a b, F a b → G a b) : ∀ {xs : List α} {ys : List β}, Paired F xs ys → Paired G xs ys
  | _, _, .nil => .nil
  | _, _, .cons p q => .cons (h _ _ p) (paired_mono h q)
theorem paired_append {α β : Type} {F : α → β → Prop} : ∀ {xs xs' : List α} {ys ys' : List β}, Paired F xs ys → Paired F xs' ys' → Paired F (xs ++ xs') (ys ++ ys')
  | _, _, _, _, .nil, q => q
  | _, _, _, _, .cons p r, q => .cons p (paired_append r q)
theorem paired_get {α β : Type} {F : α → β → Prop} : ∀ {xs : List α} {ys : List β} {i : Nat} {y : β}, Paired F xs ys → ys[i]? = some y → ∃ x, xs[i]? = some x ∧ F x y
  | _, _, _, _, .nil, e => by simp at e
  | _, _, 0, _, .cons p _, e => by simp at e; subst e; exact ⟨_, rfl, p⟩
  | _, _, i + 1, y, .cons _ q, e => by
    obtain ⟨x, h1, h2⟩ := paired_get (i := i) (y := y) q (by simpa using e)
    exact ⟨x, by simpa using h1, h2⟩
structure Scr where
  signs : Str
  rooms : Int
  begins : List Mk
  steps : List Stp
  ends : List Mk
def ScV (K : PySem.W.Frag) (H : Hp) (s : Scr) (v : V) (pb ps pe : Addr) : Prop := ∃ a xb xs xe, v = .ref a ∧ SqT K H a [.str s.signs, .int s.rooms, .ref pb, .ref ps, .ref pe] ∧ SqL K H pb xb ∧ SqL K H ps xs ∧ SqL K H pe xe ∧
  Paired (MkV K H) s.begins xb ∧ Paired (StV K H) s.steps xs ∧ Paired (MkV K H) s.ends xe
theorem ScV.mono {K : PySem.W.Frag} {H H' : Hp} {s : Scr} {v : V} {pb ps pe : Addr} (g : Same H H') : ScV K H s v pb ps pe → ScV K H' s v pb ps pe
  | ⟨a, xb, xs, xe, e, h1, h2, h3, h4, h5, h6, h7⟩ => ⟨a, xb, xs, xe, e, Same.seqT g h1, g.seq h2, g.seq h3, g.seq h4, paired_mono (fun _ _ => MkV.mono (Same.grow g)) h5, paired_mono (fun _ _ => StV.mono (Same.grow g)) h6, paired_mono (fun _ _ => MkV.mono (Same.grow g)) h7⟩
/-! as deep data -/
def dMk (m : Mk) : D := .tup [.int m.1, .str m.2]
def dSt (t : Stp) : D := .tup [.int t.1, .str t.2.1, .str t.2.2.1, .int t.2.2.2]
def dScr (s : Scr) : D := .tup [.str s.signs, .int s.rooms, .lst (s.begins.map dMk), .lst (s.steps.map dSt), .lst (s.ends.map dMk)]
theorem rep_int {K : PySem.W.Frag} {H : Hp} (i : Int) : Rep K H (.int i) (.int i) := by unfold Rep; rfl
theorem rep_str {K : PySem.W.Frag} {H : Hp} (x : Str) : Rep K H (.str x) (.str x) := by unfold Rep; rfl
theorem rep_tup {K : PySem.W.Frag} {H : Hp} {a : Addr} {xs : List V} {ds : List D} (h : SqT K H a xs) (r : Reps K H ds xs) : Rep K H (.tup ds) (.ref a) := by unfold Rep; exact ⟨a, xs, rfl, h, r⟩
theorem rep_lst {K : PySem.W.Frag} {H : Hp} {a : Addr} {xs : List V} {ds : List D} (h : SqL K H a xs) (r : Reps K H ds xs) : Rep K H (.lst ds) (.ref a) := by unfold Rep; exact ⟨a, xs, rfl, h, r⟩
theorem MkV.rep {K : PySem.W.Frag} {H : Hp} {m : Mk} {v : V} : MkV K H m v → Rep K H (dMk m) v
  | ⟨_, e, h⟩ => by subst e; exact rep_tup h (.cons (rep_int _) (.cons (rep_str _) .nil))
theorem StV.rep {K : PySem.W.Frag} {H : Hp} {m : Stp} {v : V} : StV K H m v → Rep K H (dSt m) v
  | ⟨_, e, h⟩ => by subst e; exact rep_tup h (.cons (rep_int _) (.cons (rep_str _) (.cons (rep_str _) (.cons (rep_int _) .nil))))
theorem reps_of {K : PySem.W.Frag} {H : Hp} {α : Type} {F : α → V → Prop} {f : α → D} (h : ∀ a v, F a v → Rep K H (f a) v) : ∀ {xs : List α} {vs : List V}, Paired F xs vs → Reps K H (xs.map f) vs
  | _, _, .nil => .nil
  | _, _, .cons p q => .cons (h _ _ p) (reps_of h q)
theorem ScV.rep {K : PySem.W.Frag} {H : Hp} {s : Scr} {v : V} {pb ps pe : Addr} : ScV K H s v pb ps pe → Rep K H (dScr s) v
  | ⟨a, xb, xs, xe, e, h1, h2, h3, h4, h5, h6, h7⟩ => by
    subst e
    exact rep_tup h1 (.cons (rep_str _) (.cons (rep_int _) (.cons (rep_lst h2 (reps_of (f := dMk) (F := MkV K H) (fun _ _ h => MkV.rep h) h5)) (.cons (rep_lst h3 (reps_of (f := dSt) (F := StV K H) (fun _ _ h => StV.rep h) h6)) (.cons (rep_lst h4 (reps_of (f := dMk) (F := MkV K H) (fun _ _ h => MkV.rep h) h7)) .nil)))))
theorem deeps_map {α : Type} (f : α → D) (n : Nat) (h : ∀ a, deep (f a) ≤ n) : ∀ xs : List α, deeps (xs.map f) ≤ n
  | [] => by rw [List.map_nil, deeps]; exact Nat.zero_le _
  | x :: xs => by
    have h1 := h x
    have h2 := deeps_map f n h xs
    rw [List.map_cons, deeps]; omega
theorem deep_dMk (m : Mk) : deep (dMk m) ≤ 1 := by unfold dMk; simp [deep, deeps]
theorem deep_dSt (m : Stp) : deep (dSt m) ≤ 1 := by unfold dSt; simp [deep, deeps]
theorem deep_dScr (s : Scr) : deep (dScr s) ≤ 3 := by
  have h1 := deeps_map dMk 1 deep_dMk s.begins
  have h2 := deeps_map dSt 1 deep_dSt s.steps
  have h3 := deeps_map dMk 1 deep_dMk s.ends
  unfold dScr
  simp only [deep, deeps]
  omega
theorem eqD_dMk (a b : Mk) : eqD (dMk a) (dMk b) = decide (a = b) := by
  obtain ⟨i, x⟩ := a; obtain ⟨j, y⟩ := b
  unfold dMk
  simp only [eqD, eqDs, Bool.and_true]
  by_cases h1 : i = j <;> by_cases h2 : x = y <;> simp [h1, h2]
theorem eqD_dSt (a b : Stp) : eqD (dSt a) (dSt b) = decide (a = b) := by
  obtain ⟨i, x, z, k⟩ := a; obtain ⟨j, y, u, l⟩ := b
  unfold dSt
  simp only [eqD, eqDs, Bool.and_true]
  by_cases h1 : i = j <;> by_cases h2 : x = y <;> by_cases h3 : z = u <;> by_cases h4 : k = l <;> simp [h1, h2, h3, h4]
theorem any_mem {α : Type} [DecidableEq α] (f : α → D) (h : ∀ a b, eqD (f a) (f b) = decide (a = b)) (x : α) : ∀ xs : List α, ((xs.map f).any fun e => eqD e (f x)) = decide (x ∈ xs)
  | [] => by simp
  | y :: ys => by
    rw [List.map_cons, List.any_cons, any_mem f h x ys, h]
    by_cases c : y = x
    · simp [c]
    · simp [c, show ¬ x = y from fun q => c q.symm]
/-! ### the list's insert; a number of the module -/
section
variable {X : Cx}
def insAt (n : Nat) (i : Int) : Nat := if i < 0 then (i + (n : Int)).toNat else min i.toNat n
def rInsert : V → List V → Hp → VK → Prop := fun x vs H Q => ∃ l xs i y, x = .ref l ∧ vs = [.int i, y] ∧ H l = some (.lst xs) ∧ (-(2 ^ 63) ≤ i ∧ i < 2 ^ 63) ∧ xs.length < sizeLine ∧ Q .non (upd H l (.lst (xs.take (insAt xs.length i) ++ y :: xs.drop (insAt xs.length i))))
theorem mt_insert : MtM X "list.insert" rInsert := by
  intro pins s σ H x vs v us Q I rx rv h
  obtain ⟨l, xs, i, y, rfl, rfl, hH, hi, hz, q⟩ := h
  cases rx
  obtain ⟨u, w', rfl, ⟨t, rfl⟩, ry⟩ := vals2 rv
  obtain ⟨z, its, n, r, hl, e⟩ := I.lstM hH
  have hf : ¬ (!Builtin.List.listFitsIndex i) = true := by
    unfold Builtin.List.listFitsIndex
    simp only [Bool.not_eq_true', Bool.and_eq_false_iff, decide_eq_false_iff_not, not_or, Decidable.not_not]
    exact hi
  refine call_meets F.slot_list_insert ⟨_, e, rfl⟩ F.entry_list_insert (F.args_list_insert_3 _ _ _) (AutoSeq1.list_insert_list_int_val_1 l its.toArray n i t w' hf (by rw [List.size_toArray]; omega)) ⟨e, ?_⟩
  have hil : insAt xs.length i = insAt its.length i := by rw [hl]
  refine ⟨.non, _, I.lset (its' := its.take (insAt its.length i) ++ w' :: its.drop (insAt its.length i)) hH e ?_ ((r.take _).append (.cons ry (r.drop _))) ?_, rfl, by rw [← hil]; exact q⟩
  · rw [List.size_toArray]
    show (its.toArray.extract 0 (insAt its.length i)).push w' ++ its.toArray.extract (insAt its.length i) = _
    apply Array.ext'
    simp [Array.toList_extract, List.take_of_length_le]
  · rw [List.length_append, List.length_cons, List.length_take, List.length_drop]; omega
theorem pe_globI {x : Str} {i : Int} {pos : Pos} (hg : Gl X x) (hm : ∃ t, X.mg x = some (.int i t)) (hd : (x == ("__debug__" : Str)) = false := by decide) : PE X (.Name x pos) (tC (.int i)) := by
  obtain ⟨t, hm⟩ := hm
  exact pe_glob hg hm ⟨t, rfl⟩ hd
end
/-! in a block: the fragment named outright -/
theorem kIx {X : Cx} {K : PySem.W.Frag} (r : PySem.W.Frag → R2) (h : IxR X (r X.K)) (e : X.K = K := by rfl) : IxR X (r K) := e ▸ h
theorem kSl {X : Cx} {K : PySem.W.Frag} (r : PySem.W.Frag → V → Option Int → Option Int → Hp → VK → Prop) (h : SlR X (r X.K)) (e : X.K = K := by rfl) : SlR X (r K) := e ▸ h
theorem kOp {X : Cx} {K : PySem.W.Frag} {f : Value → Value → Sem Value} (r : PySem.W.Frag → R2) (h : OpR X f (r X.K)) (e : X.K = K := by rfl) : OpR X f (r K) := e ▸ h
theorem is_bool {K : PySem.W.Frag} : PySem.W.kitOne K (.type "bool") (.type "bool") = some true := rfl
end L3

/-! Exceptions of own classes: raised, passing frames. -/
namespace L3
open PySem PySem.Spec PyProof.Rows L2
section
variable {P : Program} {w : World} {st : List Env} {H H' : Hp} {s s' : Shared} {x C : Addr} {B : Heap}
end
section
variable {X : Cx} {pins : List (Addr × Obj)} {σ : L2.St} {H : Hp} {s : Shared}
end
end L3

/-! An exception object of an own class: its class, isinstance; a clause that takes it. -/
namespace L3
open PySem PySem.Spec PyProof.Rows L2 PySem.W PySem.Builtin PySem.Builtin.ObjectAttr PySem.Builtin.Getset_descriptor PySem.Calls
section
variable {prog : Program} {w : World} {A : Around} {E : Value → Shared → Prop} {s : Shared} {K : Frag} {x C : Addr}
end
end L3

/-! raise C(..), calls that may raise, try with one call, isinstance of what was caught. -/
namespace L3
open PySem PySem.Spec PyProof.Rows L2
section
variable {X : Cx}
/-! ### an own def that may raise -/
end
section
variable {P : Program} {w : World} {K : PySem.W.Frag} {mg : Str → Option Value} {base : Heap} {N : List Str} {qual : Str} {scope : Scope} {f : Addr} {cd : Value} {A : Around} {outer : List Env} {s : Shared} {H : Hp} {E : XK}
end
/-! ### what was caught -/
section
variable {X : Cx}
end
end L3

/-! try: y = f(..) / except S as n: z = n -/
namespace L3
open PySem PySem.Spec PyProof.Rows L2
section
variable {X : Cx} {pins : List (Addr × Obj)} {σ : L2.St} {H : Hp} {s : Shared}
end
end L3

/-! A loop over a text. -/
namespace L3
open PySem PySem.Spec PyProof.Rows L2
def Its (x : Str) : It := ⟨fun i _ => i < x.cps.size, fun i H v H' => H' = H ∧ ∃ c, x.cps[i]? = some c ∧ v = .str ⟨#[c]⟩, fun i _ => x.cps.size ≤ i⟩
theorem str_walks {prog : Program} {w : World} {A : Around} (hh : A.handled = none) (it : Addr) (x : Str) (t : Tok) {ty : String} (hty : ty = "str_ascii_iterator" ∨ ty = "str_iterator") :
    Walks prog w A it [it] [it] x.cps.size (SignAt x) (fun i h => h.IsStrIter it ty x t i) := by
  rcases hty with rfl | rfl
  · exact Walks.strAscii hh it x t
  · exact Walks.strWide hh it x t
theorem turn_str {P : Program} {w : World} {K : PySem.W.Frag} {tg : Expr} (it : Addr) (x : Str) (t : Tok) {ty : String} (hty : ty = "str_ascii_iterator" ∨ ty = "str_iterator") : Turn P w K tg (Its x) [it] it (fun i h => h.IsStrIter it ty x t i) where
  mem := by simp
  obj := fun i h st b hb => by
    have e : b = it := by simpa using hb
    subst e
    obtain ⟨o, e, c, d⟩ := st
    exact ⟨o, e, fun v z => by rw [d] at z; cases z⟩
  keep := fun i h h' st k => let ⟨o, ho, r⟩ := st; ⟨o, k it (by simp) o ho, r⟩
  item := by
    intro X hP hw hK hc i pins s σ H E I hf st hg
    subst hP hw hK
    obtain ⟨f0, f1, f2, f3, f4, f5⟩ := hf it (by simp)
    refine (str_walks (prog := X.prog) (w := X.w) (I.ok.hd hc) it x t hty).item i s _ _ hg st fun v h' tk hv st' kk => ?_
    obtain ⟨c, u, hcx, rfl⟩ := hv
    have I1 : Inv X pins σ H { s with heap := h', toks := tk } := I.turned (fun b o hb e => kk b o (by simpa using hb) e) f0 f1 f3 f4 f5
    obtain ⟨o, e, cc, d⟩ := id st'
    exact ⟨_, rfl, go_of (s := { s with heap := h', toks := tk }) e cc d (by rcases hty with rfl | rfl <;> decide) ⟨.str ⟨#[c]⟩, H, I1, ⟨u, rfl⟩, ⟨rfl, c, hcx, rfl⟩, st', fun b hb => (hf b hb).1⟩⟩
  done := by
    intro X hP hw hK hc i pins s σ H E I hf st hg
    subst hP hw hK
    obtain ⟨f0, f1, f2, f3, f4, f5⟩ := hf it (by simp)
    have hx : x.cps[i]? = none := Array.getElem?_eq_none hg
    rcases hty with rfl | rfl
    · exact wpAny_pyNext_ascii_end (I.ok.hd hc) st hx fun h' eb => ⟨rfl, I.turned (t' := s.toks) (fun b o hb e => eb b o hb e) f0 f1 f3 f4 f5⟩
    · exact wpAny_pyNext_wide_end (I.ok.hd hc) st hx fun h' eb => ⟨rfl, I.turned (t' := s.toks) (fun b o hb e => eb b o hb e) f0 f1 f3 f4 f5⟩
  self := fun _ _ _ _ _ st h => by
    rcases hty with rfl | rfl
    · exact wpAny_pyIter_striter_ascii st h
    · exact wpAny_pyIter_striter_wide st h
section
variable {X : Cx} {tg : Expr}
def iStr (tl : TE) : TI := fun σ H R => tl σ H fun x H1 => ∃ z, x = .str z ∧ R (Its z) H1
theorem pi_str {l : Expr} {tl : TE} (hl : PE X l tl) : PI X tg l (iStr tl) := by
  intro pins s σ H R I h
  refine thn (hl pins s σ H _ I h) fun v s1 ⟨x, H1, I1, r1, q1⟩ => ?_
  obtain ⟨z, e, q⟩ := q1
  subst e
  obtain ⟨t, rfl⟩ := r1
  have fp : ∀ b ∈ [s1.heap.objs.size], FpOk X pins H1 b := fun b hb => by
    have e : b = s1.heap.objs.size := by simpa using hb
    subst e
    exact I1.fpOk (Nat.le_refl _) (I1.hok.fresh (Nat.le_refl _))
  cases ha : z.cps.all (· < 128)
  · exact wpAny_pyIter_wide ha ⟨s1.heap.objs.size, [s1.heap.objs.size], _, _, H1, rfl, I1.kept (t' := s1.toks) fun b o e => Heap.get?_push_of_some _ e, turn_str _ z t (.inr rfl), ⟨_, Heap.get?_push_size _ rfl, rfl, rfl⟩, fp, q⟩
  · exact wpAny_pyIter_ascii ha ⟨s1.heap.objs.size, [s1.heap.objs.size], _, _, H1, rfl, I1.kept (t' := s1.toks) fun b o e => Heap.get?_push_of_some _ e, turn_str _ z t (.inl rfl), ⟨_, Heap.get?_push_size _ rfl, rfl, rfl⟩, fp, q⟩
end
end L3

/-! min and max of a text; all of a list of truths. -/
namespace L3
open PySem PySem.Spec PyProof.Rows L2
def letAt (z : Str) (i : Nat) : List Nat := [(z.cps[i]?).getD 0]
theorem letAt_eq {z : Str} {i c : Nat} (h : z.cps[i]? = some c) : letAt z i = [c] := by unfold letAt; rw [h]; rfl
theorem cmp_lt_let {prog : Program} {w : World} {A : Around} {z : Str} : CmpOf prog w A .Lt (SignAt z) (fun i j => decide (letAt z i < letAt z j)) := fun i j vi vj s Q E hi hj h => by
  obtain ⟨c, t, ec, rfl⟩ := hi
  obtain ⟨d, u, ed, rfl⟩ := hj
  have h' : Q (.bool (decide (letAt z i < letAt z j))) s := h
  rw [letAt_eq ec, letAt_eq ed] at h'
  exact lt_str h'
theorem cmp_gt_let {prog : Program} {w : World} {A : Around} {z : Str} : CmpOf prog w A .Gt (SignAt z) (fun i j => decide (letAt z j < letAt z i)) := fun i j vi vj s Q E hi hj h => by
  obtain ⟨c, t, ec, rfl⟩ := hi
  obtain ⟨d, u, ed, rfl⟩ := hj
  have h' : Q (.bool (decide (letAt z j < letAt z i))) s := h
  rw [letAt_eq ec, letAt_eq ed] at h'
  exact PySem.P.gt_str h'
theorem let_lt (a b : Nat) : ([a] : List Nat) < [b] ↔ a < b := by
  constructor
  · intro h
    cases h with
    | rel h => exact h
    | cons h => cases h
  · intro h; exact .rel h
section
variable {X : Cx}
def rMinS : List V → Hp → VK → Prop := fun xs H Q => ∃ z : Str, xs = [.str z] ∧ cl z ≠ [] ∧ ∀ c ∈ cl z, (∀ y ∈ cl z, c ≤ y) → Q (.str ⟨#[c]⟩) H
def rMaxS : List V → Hp → VK → Prop := fun xs H Q => ∃ z : Str, xs = [.str z] ∧ cl z ≠ [] ∧ ∀ c ∈ cl z, (∀ y ∈ cl z, y ≤ c) → Q (.str ⟨#[c]⟩) H
theorem call_minS (hc : X.calm = true) : CallR X (.builtin "min") rMinS := by
  intro pins s σ H xs us Q I r h
  obtain ⟨z, rfl, hne, q⟩ := h
  obtain ⟨u, rfl, t, rfl⟩ := vals1 r
  have hpos : 0 < z.cps.size := by
    have := List.length_pos_iff.mpr hne
    rwa [cl_length] at this
  refine call_min_walk (wpAny_pyIter_str fun o St W st => ?_)
  refine ⟨_, _, _, _, _, _, _, rfl, W X.A.in1 (I.ok.hd hc), st, fun b hb => ?_, hpos, cmp_lt_let, fun v h' tk hP hk => ?_⟩
  · rw [List.mem_singleton.mp hb]
    show _ < (s.heap.push o).objs.size
    rw [Heap.size_push]; exact Nat.lt_succ_self _
  obtain ⟨c, t', ec, rfl⟩ := hP
  have em : (cl z)[argBest (fun i j => decide (letAt z i < letAt z j)) (z.cps.size - 1)]? = some c := by
    show z.cps.toList[_]? = _
    rw [Array.getElem?_toList]; exact ec
  refine ⟨.str ⟨#[c]⟩, H, I.kept (t' := tk) (fun b o' e => hk b o' (fun z' => ?_) (Heap.get?_push_of_some _ e)), ⟨t', rfl⟩, q c (List.mem_of_getElem? em) fun y hy => ?_⟩
  · rw [List.mem_singleton.mp z'] at e
    exact absurd (Heap.lt_size e) (Nat.lt_irrefl _)
  · obtain ⟨i, hi, rfl⟩ := List.getElem_of_mem hy
    have hi' : i < z.cps.size := by rwa [cl_length] at hi
    have b := best_min (letAt z) (z.cps.size - 1) i (by omega)
    have ei : z.cps[i]? = some (cl z)[i] := by rw [← Array.getElem?_toList]; exact List.getElem?_eq_getElem hi
    rw [letAt_eq ec, letAt_eq ei, let_lt] at b
    omega
theorem call_maxS (hc : X.calm = true) : CallR X (.builtin "max") rMaxS := by
  intro pins s σ H xs us Q I r h
  obtain ⟨z, rfl, hne, q⟩ := h
  obtain ⟨u, rfl, t, rfl⟩ := vals1 r
  have hpos : 0 < z.cps.size := by
    have := List.length_pos_iff.mpr hne
    rwa [cl_length] at this
  refine call_max_walk (wpAny_pyIter_str fun o St W st => ?_)
  refine ⟨_, _, _, _, _, _, _, rfl, W X.A.in1 (I.ok.hd hc), st, fun b hb => ?_, hpos, cmp_gt_let, fun v h' tk hP hk => ?_⟩
  · rw [List.mem_singleton.mp hb]
    show _ < (s.heap.push o).objs.size
    rw [Heap.size_push]; exact Nat.lt_succ_self _
  obtain ⟨c, t', ec, rfl⟩ := hP
  have em : (cl z)[argBest (fun i j => decide (letAt z j < letAt z i)) (z.cps.size - 1)]? = some c := by
    show z.cps.toList[_]? = _
    rw [Array.getElem?_toList]; exact ec
  refine ⟨.str ⟨#[c]⟩, H, I.kept (t' := tk) (fun b o' e => hk b o' (fun z' => ?_) (Heap.get?_push_of_some _ e)), ⟨t', rfl⟩, q c (List.mem_of_getElem? em) fun y hy => ?_⟩
  · rw [List.mem_singleton.mp z'] at e
    exact absurd (Heap.lt_size e) (Nat.lt_irrefl _)
  · obtain ⟨i, hi, rfl⟩ := List.getElem_of_mem hy
    have hi' : i < z.cps.size := by rwa [cl_length] at hi
    have b := best_max (letAt z) (z.cps.size - 1) i (by omega)
    have ei : z.cps[i]? = some (cl z)[i] := by rw [← Array.getElem?_toList]; exact List.getElem?_eq_getElem hi
    rw [letAt_eq ec, letAt_eq ei, let_lt] at b
    omega
end
end L3
namespace L3
open PySem PySem.Spec PyProof.Rows L2
theorem vals_bls : ∀ {bs : List Bool} {us : List Value}, Vals (bs.map V.bl) us → ∀ (i : Nat) v, us[i]? = some v → ∃ b, bs[i]? = some b ∧ v = .bool b
  | [], _, r, i, v, e => by cases r; simp at e
  | b :: bs, _, r, i, v, e => by
    cases r with
    | cons r1 r2 =>
      cases i with
      | zero => simp at e; subst e; exact ⟨b, rfl, r1⟩
      | succ i =>
        obtain ⟨b', h1, h2⟩ := vals_bls r2 i v (by simpa using e)
        exact ⟨b', by simpa using h1, h2⟩
theorem range_all : ∀ bs : List Bool, (List.range bs.length).all (fun i => (bs[i]?).getD false) = bs.all id := fun bs => by
  rw [Bool.eq_iff_iff, List.all_eq_true, List.all_eq_true]
  constructor
  · intro h x hx
    obtain ⟨i, hi, rfl⟩ := List.getElem_of_mem hx
    have := h i (List.mem_range.mpr hi)
    rw [List.getElem?_eq_getElem hi] at this
    exact this
  · intro h i hi
    have hi' := List.mem_range.mp hi
    rw [List.getElem?_eq_getElem hi']
    exact h _ (List.getElem_mem hi')
theorem bt_all : bootBuiltins "all" = some (.builtin "all") := by decide +kernel
section
variable {X : Cx}
theorem call_allB (hc : X.calm = true) : CallR X (.builtin "all") (fun xs H Q => ∃ (p : Addr) (bs : List Bool), xs = [.ref p] ∧ SqL X.K H p (bs.map V.bl) ∧ Q (.bl (bs.all id)) H) := by
  intro pins s σ H zs us Q I r h
  obtain ⟨p, bs, rfl, hq, q⟩ := h
  obtain ⟨u, rfl, rx⟩ := vals1 r
  cases rx
  obtain ⟨its, rv, pl, hz⟩ := I.list hq
  have hlen : bs.length = its.length := by rw [← rv.length, List.length_map]
  refine call_all_walk (iter_anyList pl.isList fun s₂ e st hfp hlI => ?_)
  subst e
  refine ⟨_, _, _, _, _, _, fun i => (bs[i]?).getD false, rfl, Walks.list (A := X.A.in1) (I.ok.hd hc) _ p hlI its.toArray, st, fun i v s Q E hP hQ => ?_, fun h' tk hk => ?_⟩
  · obtain ⟨b, eb, rfl⟩ := vals_bls rv i v (by simpa using hP)
    have hQ' : Q ((bs[i]?).getD false) s := hQ
    rw [eb] at hQ'
    unfold truthy
    exact wpAny_pure hQ'
  · have e : (List.range its.toArray.size).all (fun i => (bs[i]?).getD false) = bs.all id := by rw [List.size_toArray, ← hlen]; exact range_all bs
    rw [e]
    exact ⟨.bl _, H, I.kept (old_kept hk), rfl, q⟩
end
end L3

/-! set(text): its letters. -/
namespace L3
open PySem PySem.Spec PyProof.Rows L2
section
variable {prog : Program} {w : World} {B : Around} {E : Value → Shared → Prop} {s : Shared}
set_option maxRecDepth 100000 in
set_option maxHeartbeats 3200000 in
theorem updateFrom_str {id : String} {a : Addr} {z : Str} {t : Tok} {Q : Unit → Shared → Prop} (hh : B.handled = none) (has : a < s.heap.objs.size) (Sx : Nat → Heap → Prop)
    (keep : ∀ i (h h' : Heap), Sx i h → (∀ o, h.get? a = some o → h'.get? a = some o) → Sx i h') (start : Sx 0 s.heap)
    (add : ∀ i v (s' : Shared) (Q : Bool → Shared → Prop) (E' : Value → Shared → Prop), SignAt z i v → Sx i s'.heap → (∀ h' tk c, Heap.SameBut a s'.heap h' → Sx (i + 1) h' → Q c { s' with heap := h', toks := tk }) → wpAny (model prog w) B.in1 (setAdd a v) Q E' s')
    (fin : ∀ h' tk, Sx z.cps.size h' → (∀ b o, b < s.heap.objs.size → b ≠ a → s.heap.get? b = some o → h'.get? b = some o) → Q () { s with heap := h', toks := tk }) :
    wpAny (model prog w) B (Builtin.Frozenset.updateFrom id a (.str z t)) Q E s := by
  have sl0 : isSubtype (.type "str") (.type "set") = pure false := by rw [isSubtype_type]; kernel_rfl
  have sl1 : isSubtype (.type "str") (.type "frozenset") = pure false := by rw [isSubtype_type]; kernel_rfl
  have ne0 : (Value.type "str" == Value.type "dict") = false := by decide
  unfold Builtin.Frozenset.updateFrom
  generalize hPI : pyIter = PI
  wp_walk
  subst hPI
  refine wpAny_pyIter_str fun o St W st => ?_
  refine wpAny_bind (wpAny_runValue ?_)
  refine set_loop (W B.in1 (by simp [hh])) a ?_ Sx ?_ (fun i v s' Q E' _ hv sx hq => add i v s' Q E' hv sx hq) (z.cps.size - 0) 0 _ rfl (Nat.zero_le _) ?_ ?_ ?_
  · simp only [List.mem_cons, List.not_mem_nil, or_false]
    exact Nat.ne_of_lt has
  · intro i j h h' _ sx hk
    exact keep i h h' sx fun o e => hk a o (by simp only [List.mem_cons, List.not_mem_nil, or_false]; exact Nat.ne_of_lt has) e
  · exact st
  · exact keep 0 _ _ start fun o' e => Heap.get?_push_of_some _ e
  · intro h' tk hk sx
    refine wpAny_pure ?_
    refine fin h' tk sx fun b o' hb hba e => hk b o' ?_ hba (Heap.get?_push_of_some _ e)
    simp only [List.mem_cons, List.not_mem_nil, or_false]
    exact Nat.ne_of_lt hb
end
section
variable {X : Cx}
def rSetS : List V → Hp → VK → Prop := fun xs H Q => ∃ z : Str, xs = [.str z] ∧ z.length ≤ 4000 ∧ ∀ q, H q = none → Q (.ref q) (upd H q (SetN q (ndist (cl z).reverse)))
theorem ndist_inj {α β : Type} [DecidableEq α] [DecidableEq β] {f : α → β} (inj : ∀ a b, f a = f b → a = b) : ∀ xs : List α, ndist (xs.map f) = ndist xs
  | [] => rfl
  | x :: xs => by
    rw [List.map_cons, ndist_cons, ndist_cons, ndist_inj inj xs]
    have : memD (f x) (xs.map f) = memD x xs := by
      unfold memD
      rw [Bool.eq_iff_iff]
      simp only [decide_eq_true_eq, List.mem_map]
      exact ⟨fun ⟨y, h1, h2⟩ => inj _ _ h2 ▸ h1, fun h => ⟨x, h, rfl⟩⟩
    rw [this]
theorem call_setS (hc : X.calm = true) : CallR X (.type "set") rSetS := by
  intro pins s σ H xs us Q I r h
  obtain ⟨z, rfl, hz, q⟩ := h
  obtain ⟨u, rfl, t, rfl⟩ := vals1 r
  have hzl : z.cps.size = z.length := rfl
  have hks : ∀ i c, z.cps[i]? = some c → ((cl z).map fun c => (Sum.inr (⟨#[c]⟩ : Str) : Key))[i]? = some (Sum.inr (⟨#[c]⟩ : Str)) := fun i c e => by
    rw [List.getElem?_map]
    show Option.map _ (z.cps.toList[i]?) = _
    rw [Array.getElem?_toList, e]; rfl
  have hkl : ((cl z).map fun c => (Sum.inr (⟨#[c]⟩ : Str) : Key)).length = z.cps.size := by rw [List.length_map]; exact cl_length z
  have hnd : ndist ((cl z).map fun c => (Sum.inr (⟨#[c]⟩ : Str) : Key)).reverse = ndist (cl z).reverse := by
    rw [← List.map_reverse]
    exact ndist_inj (fun a b h => by injection h with h; injection h with h; injection h with h; injection h) _
  generalize ((cl z).map fun c => (Sum.inr (⟨#[c]⟩ : Str) : Key)) = ks at hks hkl hnd
  refine call_set_any fun led E' => ?_
  have st0 : (s.heap.push (newSetO led)).SetOf (mixKind X.prog X.w) s.heap.objs.size (fun k => memD k (ks.take 0).reverse) (ndist (ks.take 0).reverse) := by
    refine ⟨_, #[], 0, _, Heap.get?_push_size _ rfl, ⟨rfl, rfl, rfl⟩, rfl, (by intro e he; cases he), fun k => ?_, (by decide), rfl, rfl⟩
    simp [memD_nil]
  refine updateFrom_str (s := { s with heap := s.heap.push (newSetO led) }) (by simp [I.ok.hd hc]) (by rw [Heap.size_push]; exact Nat.lt_succ_self _)
    (fun i h => h.SetOf (mixKind X.prog X.w) s.heap.objs.size (fun k => memD k (ks.take i).reverse) (ndist (ks.take i).reverse)) ?_ st0 ?_ ?_
  · rintro i h h' ⟨o, es, ep, t, ho, r⟩ k
    exact ⟨o, es, ep, t, k o ho, r⟩
  · rintro i v s' Q' E'' hv x1 hq'
    obtain ⟨c, t', ec, rfl⟩ := hv
    have h1 := hks i c ec
    have h2 : keyIs (Sum.inr (⟨#[c]⟩ : Str)) (.str ⟨#[c]⟩ t') = true := keyIs_str _ _
    have hi : i < ks.length := (List.getElem?_eq_some_iff.mp h1).1
    unfold setAdd
    refine wpAny_holding (wpAny_bind ((mixKind X.prog X.w).pyHash (k := Sum.inr (⟨#[c]⟩ : Str)) h2 ?_))
    have hroom : ndist (ks.take i).reverse + 1 < scanBound := by
      have := ndist_le (ks.take i).reverse
      rw [List.length_reverse, List.length_take] at this
      unfold scanBound; omega
    refine wpAny_setAddHashed_of (knd := mixKind X.prog X.w) (s := { s' with toks := s'.toks + 1 }) h2 rfl x1 hroom fun h' hsb hS => ?_
    refine hq' h' _ _ hsb ?_
    show h'.SetOf (mixKind X.prog X.w) s.heap.objs.size (fun k => memD k (ks.take (i + 1)).reverse) (ndist (ks.take (i + 1)).reverse)
    rw [take_rev h1, ndist_cons, show (fun k' => memD k' (Sum.inr (⟨#[c]⟩ : Str) :: (ks.take i).reverse)) = fun k' => memD k' (ks.take i).reverse || decide (k' = Sum.inr (⟨#[c]⟩ : Str)) from funext fun k' => memD_cons _ _ _]
    exact hS
  · intro h' tk x1 hk
    rw [← hkl, List.take_length, hnd] at x1
    have x3 : sizeIs s.heap.objs.size (ndist (cl z).reverse) h' := by
      obtain ⟨o, es, ep, t, ho, hex, hd, _, _, _, hf, hn⟩ := x1
      exact ⟨o, es, ep, t, ho, hex, hd, hf, hn⟩
    refine ⟨.ref s.heap.objs.size, _, I.laid (t' := tk) (fun b o e => ?_) (Nat.le_refl _) (sizeIs_ok x3), rfl, q _ (I.hok.fresh (Nat.le_refl _))⟩
    have hb := Heap.lt_size e
    refine hk b o ?_ (Nat.ne_of_lt hb) (Heap.get?_push_of_some _ e)
    rw [Heap.size_push]; exact Nat.lt_succ_of_lt hb
end
end L3

/-! isinstance of deep data. -/
namespace L3
open PySem PySem.Spec PyProof.Rows L2
def tyN : D → String
  | .non => "NoneType"
  | .bl _ => "bool"
  | .int _ => "int"
  | .str _ => "str"
  | .tup _ => "tuple"
  | .lst _ => "list"
def isT (d : D) (T : String) : Bool := match d with
  | .non => T == "NoneType"
  | .bl _ => T == "bool" || T == "int"
  | .int _ => T == "int"
  | .str _ => T == "str"
  | .tup _ => T == "tuple"
  | .lst _ => T == "list"
theorem kit_isT {K : PySem.W.Frag} (d : D) {T : String} (h : T = "tuple" ∨ T = "int" ∨ T = "bool" ∨ T = "str" ∨ T = "list") : PySem.W.kitOne K (.type (tyN d)) (.type T) = some (isT d T) := by
  rcases h with rfl | rfl | rfl | rfl | rfl <;> cases d <;> rfl
section
variable {X : Cx}
theorem call_isinstD : CallR X (.builtin "isinstance") (fun xs H Q => ∃ x d T, xs = [x, .ty T] ∧ Rep X.K H d x ∧ (T = "tuple" ∨ T = "int" ∨ T = "bool" ∨ T = "str" ∨ T = "list") ∧ Q (.bl (isT d T)) H) := by
  intro pins s σ H xs us Q I r h
  obtain ⟨x, d, T, rfl, rep, hT, q⟩ := h
  obtain ⟨u, w', rfl, rx, rt⟩ := vals2 r
  cases rt
  have k := kit_isT (K := X.K) d hT
  have fin : ∀ tk, EP X pins σ Q (.bool (isT d T)) { s with toks := tk } := fun tk => ⟨.bl (isT d T), H, I.tok _, rfl, q⟩
  cases d with
  | non => unfold Rep at rep; subst rep; exact isinst_ok I rx .non k fin
  | bl b => unfold Rep at rep; subst rep; exact isinst_ok I rx (.bl b) k fin
  | int i => unfold Rep at rep; subst rep; exact isinst_ok I rx (.int i) k fin
  | str y => unfold Rep at rep; subst rep; exact isinst_ok I rx (.str y) k fin
  | tup ds =>
    unfold Rep at rep
    obtain ⟨a, ys, rfl, hq, _⟩ := rep
    cases (show u = Value.ref a from rx)
    obtain ⟨its, _, p, _⟩ := I.tuple hq
    obtain ⟨o, h1, h2, _⟩ := p
    exact PySem.W.kia_one PySem.W.kitx_tuple I.kIn ⟨o, h1, h2⟩ k (fun z => nomatch z) fin
  | lst ds =>
    unfold Rep at rep
    obtain ⟨a, ys, rfl, hq, _⟩ := rep
    cases (show u = Value.ref a from rx)
    obtain ⟨its, _, p, _⟩ := I.list hq
    obtain ⟨o, h1, h2, _⟩ := p.isList
    exact PySem.W.kia_one PySem.W.kitx_list I.kIn ⟨o, h1, h2⟩ k (fun z => nomatch z) fin
end
end L3
namespace L3
open PySem PySem.Spec PyProof.Rows L2
section
variable {X : Cx}
theorem op_le_str : OpR X (compareOp .LtE) (fun x y H Q => ∃ i j, x = .str i ∧ y = .str j ∧ Q (.bl (!decide (cl j < cl i))) H) := by
  intro pins s σ H x y v u Q I rx ry h
  obtain ⟨i, j, rfl, rfl, q⟩ := h
  obtain ⟨t, rfl⟩ := rx
  obtain ⟨t', rfl⟩ := ry
  exact PySem.P.le_str ⟨.bl (!decide (cl j < cl i)), H, I, rfl, q⟩
end
end L3

/-! A text within a text. -/
namespace L3
open PySem
def occStep (s sub : Str) (hi i : Nat) (st : Array Nat × Nat) : Array Nat × Nat := if (decide (st.1.size < 1) && decide (st.2 ≤ i) && decide (i + sub.length ≤ hi) && Builtin.Str.subAt s sub i) = true then (st.1.push i, i + sub.length) else (st.1, st.2)
theorem occ_run (s sub : Str) (hi : Nat) : ∀ (l : List Nat) (st : Array Nat × Nat), (forIn (m := Id) l st fun i st => if (decide (st.1.size < 1) && decide (st.2 ≤ i) && decide (i + sub.length ≤ hi) && Builtin.Str.subAt s sub i) = true then pure (ForInStep.yield (st.1.push i, i + sub.length)) else pure (ForInStep.yield (st.1, st.2))) = (pure (l.foldl (fun st i => occStep s sub hi i st) st) : Id _)
  | [], st => rfl
  | i :: l, st => by
    rw [List.forIn_cons, List.foldl_cons]
    unfold occStep
    split
    · exact occ_run s sub hi l _
    · exact occ_run s sub hi l _
theorem occ_fold (s sub : Str) (hi : Nat) : Builtin.Str.occurrences s sub 0 hi 1 = ((List.range' 0 (hi + 1)).foldl (fun st i => occStep s sub hi i st) (#[], 0)).1.toList := by
  unfold Builtin.Str.occurrences
  simp only [Id.run, Std.Legacy.Range.forIn_eq_forIn_range', Std.Legacy.Range.size]
  have e : (hi + 1 - 0 + 1 - 1) / 1 = hi + 1 := by omega
  rw [e]
  have h := occ_run s sub hi (List.range' 0 (hi + 1)) (#[], 0)
  show (Bind.bind (m := Id) (forIn (m := Id) (List.range' 0 (hi + 1)) (#[], 0) _) _) = _
  rw [h]
  rfl
theorem occ_some (s sub : Str) (hi : Nat) : ∀ (l : List Nat) (st : Array Nat × Nat), 1 ≤ st.1.size → (l.foldl (fun st i => occStep s sub hi i st) st).1 = st.1
  | [], _, _ => rfl
  | i :: l, st, h => by
    rw [List.foldl_cons]
    have e : occStep s sub hi i st = (st.1, st.2) := by
      unfold occStep
      rw [decide_eq_false (show ¬ st.1.size < 1 by omega)]
      rfl
    rw [e]
    exact occ_some s sub hi l _ h
theorem occ_any (s sub : Str) (hi : Nat) : ∀ l : List Nat, ((l.foldl (fun st i => occStep s sub hi i st) (#[], 0)).1.toList.isEmpty) = !(l.any fun i => decide (i + sub.length ≤ hi) && Builtin.Str.subAt s sub i)
  | [] => rfl
  | i :: l => by
    rw [List.foldl_cons, List.any_cons]
    by_cases c : (decide (i + sub.length ≤ hi) && Builtin.Str.subAt s sub i) = true
    · have e : occStep s sub hi i (#[], 0) = (#[].push i, i + sub.length) := by
        unfold occStep
        have : (decide ((#[] : Array Nat).size < 1) && decide (0 ≤ i) && decide (i + sub.length ≤ hi) && Builtin.Str.subAt s sub i) = true := by simpa using c
        rw [if_pos this]
      rw [e, occ_some _ _ _ _ _ (by simp), c]
      rfl
    · have e : occStep s sub hi i (#[], 0) = (#[], 0) := by
        unfold occStep
        have : ¬ (decide ((#[] : Array Nat).size < 1) && decide (0 ≤ i) && decide (i + sub.length ≤ hi) && Builtin.Str.subAt s sub i) = true := by simpa using c
        rw [if_neg this]
      rw [e, occ_any s sub hi l]
      have : (decide (i + sub.length ≤ hi) && Builtin.Str.subAt s sub i) = false := by simpa using c
      rw [this, Bool.false_or]
theorem in_one (c : Nat) (g : Str) : (!(Builtin.Str.occurrences g ⟨#[c]⟩ 0 g.length 1).isEmpty) = decide (c ∈ cl g) := by
  rw [occ_fold, occ_any, Bool.not_not, Bool.eq_iff_iff, List.any_eq_true, decide_eq_true_eq]
  have key : ∀ i, i + 1 ≤ g.length → (Builtin.Str.subAt g ⟨#[c]⟩ i = true ↔ (cl g)[i]? = some c) := fun i hi => by
    unfold Builtin.Str.subAt
    show ((g.cps.extract i (i + 1) == #[c]) = true) ↔ _
    rw [beq_iff_eq]
    have hs : i < g.cps.size := hi
    have e : g.cps.extract i (i + 1) = #[g.cps[i]] := by
      apply Array.ext
      · simp; omega
      · intro j h1 h2
        simp at h2
        subst h2
        simp
    rw [e]
    show _ ↔ g.cps.toList[i]? = some c
    rw [Array.getElem?_toList, Array.getElem?_eq_getElem hs]
    simp
  constructor
  · rintro ⟨i, _, h⟩
    rw [Bool.and_eq_true, decide_eq_true_eq] at h
    exact List.mem_of_getElem? ((key i h.1).mp h.2)
  · intro h
    obtain ⟨i, hi, e⟩ := List.getElem_of_mem h
    have hi' : i + 1 ≤ g.length := by rw [cl_length] at hi; omega
    refine ⟨i, List.mem_range'_1.mpr ⟨Nat.zero_le _, by omega⟩, ?_⟩
    rw [Bool.and_eq_true, decide_eq_true_eq]
    exact ⟨hi', (key i hi').mpr (by rw [← e]; exact List.getElem?_eq_getElem hi)⟩
end L3

/-! A comprehension over a text. -/
namespace L3
open PySem PySem.Spec PyProof.Rows L2
theorem comp_str {x : Str} {g : TG} {tf : TT} {te : TE} {τ : L2.St} {H : Hp} {Q : VK} (Pv : Nat → List V → L2.St → Hp → Prop) (h0 : Pv 0 [] τ H)
    (hs : ∀ i c ys τ H, (cl x)[i]? = some c → Pv i ys τ H → g (.str ⟨#[c]⟩) τ H fun τ2 H2 => tf τ2 H2 fun b H3 => if b = true then te τ2 H3 fun y H4 => ys.length < sizeLine ∧ Pv (i + 1) (ys ++ [y]) τ2 H4 else Pv (i + 1) ys τ2 H3)
    (hd : ∀ ys τ H, Pv (cl x).length ys τ H → ∀ p, H p = none → Q (.ref p) (upd H p (.lst ys))) :
    CompGo (Its x) g tf te Q τ H := by
  refine ⟨fun i m ys τ H => m = x.cps.size - i ∧ i ≤ x.cps.size ∧ Pv i ys τ H, ⟨x.cps.size, by simp, Nat.zero_le _, h0⟩, ?_⟩
  rintro i m ys τ H ⟨rfl, hi, p⟩
  by_cases c : i < x.cps.size
  · refine .inr ⟨c, Pv (i + 1), fun ys' τ' H' p' => ⟨x.cps.size - (i + 1), by omega, rfl, c, p'⟩, fun v H' y => ?_⟩
    obtain ⟨rfl, k, hk, rfl⟩ := y
    exact hs i k ys τ _ (by show x.cps.toList[i]? = _; rw [Array.getElem?_toList]; exact hk) p
  · have e : i = (cl x).length := by rw [cl_length]; show i = x.cps.size; omega
    exact .inl ⟨Nat.le_of_not_lt c, fun q hq => hd ys τ H (e ▸ p) q hq⟩
end L3

namespace My
open PySem PySem.Spec PyProof.Rows L2 L3
def top (i : Nat) : Stmt := PySem.Challenge.pw_earlyscribe_k11_what_is_a_scribe.main.body.getD i (.Pass ⟨0, 0, 0, 0⟩)
abbrev s_is_tuple_of : Stmt := top 7
abbrev s_is_number_below : Stmt := top 8
abbrev s_is_word : Stmt := top 9
abbrev s_all_unlike : Stmt := top 10
abbrev s_are_signs : Stmt := top 11
abbrev s_is_mark : Stmt := top 12
abbrev s_is_step : Stmt := top 13
abbrev s_are_marks : Stmt := top 14
abbrev s_are_steps : Stmt := top 15
abbrev s_is_scribe : Stmt := top 16
abbrev s_law_cell_at : Stmt := top 18
abbrev s_law_digits_at : Stmt := top 19
abbrev s_law_word : Stmt := top 20
abbrev s_law_scribe : Stmt := top 21
abbrev s_law_copied : Stmt := top 22
abbrev s_law_letters : Stmt := top 23
abbrev s_law_number : Stmt := top 24
abbrev s_law_good : Stmt := top 25
abbrev s_law_due : Stmt := top 26
abbrev s_law_bent_part : Stmt := top 27
abbrev s_law_bent : Stmt := top 28
abbrev s_law : Stmt := top 29
structure Bi (mg : Str → Option Value) : Prop where
  all : mg "all" = none
  bool : mg "bool" = none
  int : mg "int" = none
  isinstance : mg "isinstance" = none
  len : mg "len" = none
  list : mg "list" = none
  max : mg "max" = none
  min : mg "min" = none
  range : mg "range" = none
  set : mg "set" = none
  str : mg "str" = none
  tuple : mg "tuple" = none
  BEGINS : ∃ t, mg "BEGINS" = some (.int 2 t)
  ENDS : ∃ t, mg "ENDS" = some (.int 4 t)
  MOST_ROOMS : ∃ t, mg "MOST_ROOMS" = some (.int 200 t)
  ROOMS : ∃ t, mg "ROOMS" = some (.int 1 t)
  SIGNS : ∃ t, mg "SIGNS" = some (.int 0 t)
  STEPS : ∃ t, mg "STEPS" = some (.int 3 t)

local macro_rules | `(tactic| walk_at "side") => `(tactic| first | exact pz | exact ⟨pz, pz⟩ | exact .inr ⟨by decide, by decide⟩ | exact ⟨by omega, by omega⟩ | exact .inl ⟨by omega, by omega⟩ | exact .inr ⟨by omega, by omega⟩ | (show (0 : Int) < _; omega) | exact szl (by simp) | exact szl (by omega))
local macro_rules | `(tactic| walk_at "r") => `(tactic| first | refine ⟨_, rfl, ?_⟩ | refine ⟨_, _, rfl, rfl, ?_⟩ | refine ⟨rfl, ?_⟩ | refine ⟨by walk_at "side", ?_⟩)
local macro_rules | `(tactic| walk_at "rd") => `(tactic| repeat walk_at "r")

theorem szl' {n : Nat} (h : n ≤ 99999) : n < sizeLine := Nat.lt_of_lt_of_le (Nat.lt_succ_of_le h) (szl (by omega))
theorem nd_int {n m : Nat} : decide (V.int (n : Int) = V.int (m : Int)) = decide (n = m) := by
  by_cases h : n = m
  · simp [h]
  · rw [decide_eq_false h, decide_eq_false]; intro e; injection e with e; exact h (by omega)
theorem nodup_dec {κ : Type} [DecidableEq κ] (ks : List κ) : decide (ndist ks.reverse = ks.length) = decide ks.Nodup := by
  have h := ndist_nodup ks.reverse
  rw [List.length_reverse, (List.reverse_perm ks).nodup_iff] at h
  exact decide_eq_decide.mpr h

def Wd (x : Str) : Prop := x.length ≤ 40 ∧ ∀ c ∈ cl x, 97 ≤ c ∧ c ≤ 122
structure OkS (pl : Bool) (s : Scr) (n : Nat) : Prop where
  lb : s.begins.length ≤ n
  ls : s.steps.length ≤ n
  le : s.ends.length ≤ n
  mb : ∀ m ∈ s.begins, 0 ≤ m.1 ∧ m.1 < s.rooms ∧ Wd m.2
  ms : ∀ t ∈ s.steps, 0 ≤ t.1 ∧ t.1 < s.rooms ∧ (∃ c ∈ cl s.signs, t.2.1 = ⟨#[c]⟩) ∧ Wd t.2.2.1 ∧ 0 ≤ t.2.2.2 ∧ t.2.2.2 < s.rooms
  me : ∀ m ∈ s.ends, 0 ≤ m.1 ∧ m.1 < s.rooms ∧ Wd m.2
  nb : s.begins.Nodup
  ns : s.steps.Nodup
  ne : s.ends.Nodup
  pb : pl = true → s.begins.length ≤ 1
  po : pl = true → (s.steps.map fun t => (t.1, t.2.1)).Nodup
  pe : pl = true → (s.ends.map (·.1)).Nodup
theorem OkS.mono {pl : Bool} {s : Scr} {n m : Nat} (h : OkS pl s n) (le : n ≤ m) : OkS pl s m :=
  ⟨Nat.le_trans h.lb le, Nat.le_trans h.ls le, Nat.le_trans h.le le, h.mb, h.ms, h.me, h.nb, h.ns, h.ne, h.pb, h.po, h.pe⟩
theorem nodup_snoc {α : Type} {xs : List α} {x : α} (h : xs.Nodup) (hn : x ∉ xs) : (xs ++ [x]).Nodup := by
  rw [List.nodup_append]
  refine ⟨h, by simp, fun a ha b hb => ?_⟩
  rw [List.mem_singleton] at hb
  subst hb
  intro e; subst e; exact hn ha
theorem OkS.begin {pl : Bool} {g : Str} {r : Int} {B : List Mk} {S : List Stp} {E : List Mk} {n : Nat} (h : OkS pl ⟨g, r, B, S, E⟩ n) {i : Int} {x : Str} (h0 : 0 ≤ i) (h1 : i < r) (hw : Wd x) (hn : (i, x) ∉ B) (hp : pl = true → B.length = 0) : OkS pl ⟨g, r, B ++ [(i, x)], S, E⟩ (n + 1) := by
  have ha := h.mono (Nat.le_succ n)
  refine ⟨?_, ha.ls, ha.le, fun m hm => ?_, h.ms, h.me, nodup_snoc h.nb hn, h.ns, h.ne, fun q => ?_, h.po, h.pe⟩
  · show (B ++ [(i, x)]).length ≤ n + 1
    have : B.length ≤ n := h.lb
    rw [List.length_append, List.length_singleton]; omega
  · rcases List.mem_append.mp hm with hm | hm
    · exact h.mb m hm
    · rw [List.mem_singleton.mp hm]; exact ⟨h0, h1, hw⟩
  · show (B ++ [(i, x)]).length ≤ 1
    rw [List.length_append, hp q, List.length_singleton]; omega
theorem OkS.end_ {pl : Bool} {g : Str} {r : Int} {B : List Mk} {S : List Stp} {E : List Mk} {n : Nat} (h : OkS pl ⟨g, r, B, S, E⟩ n) {i : Int} {x : Str} (h0 : 0 ≤ i) (h1 : i < r) (hw : Wd x) (hn : (i, x) ∉ E) (hp : pl = true → ∀ m ∈ E, m.1 ≠ i) : OkS pl ⟨g, r, B, S, E ++ [(i, x)]⟩ (n + 1) := by
  have ha := h.mono (Nat.le_succ n)
  refine ⟨ha.lb, ha.ls, ?_, h.mb, h.ms, fun m hm => ?_, h.nb, h.ns, nodup_snoc h.ne hn, h.pb, h.po, fun q => ?_⟩
  · show (E ++ [(i, x)]).length ≤ n + 1
    have : E.length ≤ n := h.le
    rw [List.length_append, List.length_singleton]; omega
  · rcases List.mem_append.mp hm with hm | hm
    · exact h.me m hm
    · rw [List.mem_singleton.mp hm]; exact ⟨h0, h1, hw⟩
  · show ((E ++ [(i, x)]).map (·.1)).Nodup
    rw [List.map_append]
    refine nodup_snoc (h.pe q) fun hm => ?_
    obtain ⟨m, hm, e⟩ := List.mem_map.mp hm
    exact hp q m hm e
theorem OkS.step {pl : Bool} {g : Str} {r : Int} {B : List Mk} {S : List Stp} {E : List Mk} {n : Nat} (h : OkS pl ⟨g, r, B, S, E⟩ n) {i j : Int} {y x : Str} (h0 : 0 ≤ i) (h1 : i < r) (hy : ∃ c ∈ cl g, y = ⟨#[c]⟩) (hw : Wd x) (h2 : 0 ≤ j) (h3 : j < r) (hn : (i, y, x, j) ∉ S) (hp : pl = true → ∀ t ∈ S, ¬ (t.1 = i ∧ t.2.1 = y)) :
    OkS pl ⟨g, r, B, S ++ [(i, y, x, j)], E⟩ (n + 1) := by
  have ha := h.mono (Nat.le_succ n)
  refine ⟨ha.lb, ?_, ha.le, h.mb, fun t ht => ?_, h.me, h.nb, nodup_snoc h.ns hn, h.ne, h.pb, fun q => ?_, h.pe⟩
  · show (S ++ [(i, y, x, j)]).length ≤ n + 1
    have : S.length ≤ n := h.ls
    rw [List.length_append, List.length_singleton]; omega
  · rcases List.mem_append.mp ht with hm | hm
    · exact h.ms t hm
    · rw [List.mem_singleton.mp hm]; exact ⟨h0, h1, hy, hw, h2, h3⟩
  · show ((S ++ [(i, y, x, j)]).map fun t => (t.1, t.2.1)).Nodup
    rw [List.map_append]
    refine nodup_snoc (h.po q) fun hm => ?_
    obtain ⟨t, hm, e⟩ := List.mem_map.mp hm
    injection e with e1 e2
    exact hp q t hm ⟨e1, e2⟩
theorem same_updN {H0 H : Hp} {p : Addr} {o : HO} (g : Same H0 H) (h : H0 p = none) : Same H0 (upd H p o) := fun b u q => by rw [upd_ne (ne_of_none q h)]; exact g b u q
structure Apart (H0 : Hp) (pb ps pe : Addr) : Prop where
  nb : H0 pb = none
  ns : H0 ps = none
  ne : H0 pe = none
  bs : pb ≠ ps
  be : pb ≠ pe
  se : ps ≠ pe
def cellAt (ns : List Int) (k : Int) : Int := if k < ns.length then (ns[k.toNat]?).getD 0 else 0
def spCell (K : PySem.W.Frag) : Sp := fun vs H Q _ => ∃ (a : Addr) (ns : List Int) (k : Int), vs = [.ref a, .int k] ∧ SqL K H a (ns.map V.int) ∧ 0 ≤ k ∧ Q (.int (cellAt ns k)) H
def NewS (K : PySem.W.Frag) (H H' : Hp) (pl : Bool) (n : Nat) (s : Scr) (v : V) (pb ps pe : Addr) : Prop := Same H H' ∧ ScV K H' s v pb ps pe ∧ OkS pl s n ∧ 0 ≤ s.rooms ∧ s.rooms ≤ 14 ∧ 1 ≤ s.signs.length ∧ s.signs.length ≤ 5 ∧ (cl s.signs).Nodup ∧ (∀ c ∈ cl s.signs, 97 ≤ c ∧ c ≤ 122)
def ScN (K : PySem.W.Frag) (H : Hp) (s : Scr) (v : V) (pb ps pe : Addr) : Prop := ∃ a xb xs xe, v = .ref a ∧ SqT K H a [.str s.signs, .int s.rooms, .ref pb, .ref ps, .ref pe] ∧ H pb = some (.lst xb) ∧ H ps = some (.lst xs) ∧ H pe = some (.lst xe) ∧
  Paired (MkV K H) s.begins xb ∧ Paired (StV K H) s.steps xs ∧ Paired (MkV K H) s.ends xe
def spCopied (K : PySem.W.Frag) : Sp := fun vs H Q _ => ∃ v s pb ps pe, vs = [v] ∧ ScV K H s v pb ps pe ∧ ∀ v' H' pb' ps' pe', Same H H' → ScN K H' s v' pb' ps' pe' → Apart H pb' ps' pe' → Q v' H'

theorem one_len (c : Nat) : (⟨#[c]⟩ : Str).length = 1 := rfl
theorem len_app (a b : Str) : (a ++ b).length = a.length + b.length := by
  rw [← cl_length, cl_append, List.length_append, cl_length, cl_length]
theorem cl_nil : ∀ c ∈ cl ("" : Str), 97 ≤ c ∧ c ≤ 122 := by
  intro c hc
  have e : cl ("" : Str) = [] := by decide +kernel
  rw [e] at hc; cases hc
theorem cl_one (c : Nat) : cl ⟨#[c]⟩ = [c] := rfl

theorem iteB {b : Bool} {A B : Prop} (h1 : b = true → A) (h2 : b = false → B) : if b = true then A else B := by
  cases b
  · exact iteF (h2 rfl)
  · exact iteT (h1 rfl)
theorem modmax (n : Int) {r : Int} (hr : 0 ≤ r) : 0 ≤ n % (if r > 1 then r else 1) ∧ (0 < r → n % (if r > 1 then r else 1) < r) := by
  have hp : 0 < (if r > 1 then r else 1) := by split <;> omega
  refine ⟨Int.emod_nonneg _ (by omega), fun h => ?_⟩
  have := Int.emod_lt_of_pos n hp
  split at this <;> split <;> omega
def SgnOk (g : Str) : Prop := 1 ≤ g.length ∧ g.length ≤ 5 ∧ (cl g).Nodup ∧ ∀ c ∈ cl g, 97 ≤ c ∧ c ≤ 122
theorem notIn_mk {K : PySem.W.Frag} {H : Hp} {E : List Mk} {xe : List V} {m : Mk} (h : Paired (MkV K H) E xe) : Reps K H (E.map dMk) xe := reps_of (f := dMk) (F := MkV K H) (fun _ _ h => MkV.rep h) h
theorem reps_st {K : PySem.W.Frag} {H : Hp} {E : List Stp} {xe : List V} (h : Paired (StV K H) E xe) : Reps K H (E.map dSt) xe := reps_of (f := dSt) (F := StV K H) (fun _ _ h => StV.rep h) h
theorem eq2 (i j : Int) (x y : Str) : eqD (.tup [.int i, .str x]) (.tup [.int j, .str y]) = decide (i = j ∧ x = y) := by
  simp only [eqD, eqDs, Bool.and_true]
  by_cases h1 : i = j <;> by_cases h2 : x = y <;> simp [h1, h2]
theorem take_get {α : Type} {xs : List α} {i : Nat} {x : α} (h : xs[i]? = some x) : xs.take (i + 1) = xs.take i ++ [x] := by rw [List.take_add_one, h]; rfl

def wordS (x : Str) : Bool := (cl x).all fun c => decide (97 ≤ c) && decide (c ≤ 122)
def wordD : D → Bool
  | .str x => wordS x
  | _ => false
def numD (d : D) (b : Int) : Bool := match d with
  | .int i => decide (0 ≤ i) && decide (i < b)
  | _ => false
def tupD (d : D) (n : Int) : Bool := match d with
  | .tup ds => decide ((ds.length : Int) = n)
  | _ => false
def spTupOf (K : PySem.W.Frag) : Sp := fun vs H Q _ => ∃ v d n, vs = [v, .int n] ∧ Rep K H d v ∧ Q (.bl (tupD d n)) H
def spNumB (K : PySem.W.Frag) : Sp := fun vs H Q _ => ∃ v d n, vs = [v, .int n] ∧ Rep K H d v ∧ Q (.bl (numD d n)) H
def spIsWord (K : PySem.W.Frag) : Sp := fun vs H Q _ => ∃ v d, vs = [v] ∧ Rep K H d v ∧ Q (.bl (wordD d)) H
theorem cl_a : cl ("a" : Str) = [97] := by decide +kernel
theorem cl_z : cl ("z" : Str) = [122] := by decide +kernel
theorem lt_one (a b : Nat) : ([a] : List Nat) < [b] ↔ a < b := by
  constructor
  · intro h
    cases h with
    | rel h => exact h
    | cons h => cases h
  · intro h; exact .rel h
theorem eqD_nil (x : Str) : eqD (.str x) (.str "") = decide (cl x = []) := by
  have e : cl ("" : Str) = [] := by decide +kernel
  show decide (x = "") = _
  refine decide_eq_decide.mpr ⟨fun h => by rw [h]; exact e, fun h => str_ext (by rw [h, e])⟩

mutual
def small : D → Prop
  | .str x => x.length ≤ 4000
  | .tup ds => smalls ds
  | .lst ds => ds.length ≤ 900 ∧ smalls ds
  | _ => True
def smalls : List D → Prop
  | [] => True
  | d :: ds => small d ∧ smalls ds
end
theorem smalls_mem : ∀ {ds : List D} {d : D}, smalls ds → d ∈ ds → small d
  | e :: ds, d, h, m => by
    unfold smalls at h
    rcases List.mem_cons.mp m with rfl | m
    · exact h.1
    · exact smalls_mem h.2 m
def signsD : D → Bool
  | .str x => wordS x && (!decide (cl x = []) && decide (cl x).Nodup)
  | _ => false
def markD (r : Int) : D → Bool
  | .tup [a, b] => numD a r && wordD b
  | _ => false
def inS (y g : Str) : Bool := !(Builtin.Str.occurrences g y 0 g.length 1).isEmpty
def stepD (g : Str) (r : Int) : D → Bool
  | .tup [a, .str y, c, e] => numD a r && (numD e r && (decide (y.length = 1) && (inS y g && wordD c)))
  | _ => false
def keyD : D → List Key
  | .tup ds => ds.filterMap fun d => match d with
    | .int i => some (Sum.inl i)
    | .str x => some (Sum.inr x)
    | _ => none
  | _ => []
def marksD (r : Int) : D → Bool
  | .lst ds => (ds.map (markD r)).all id && decide (ds.map keyD).Nodup
  | _ => false
def stepsD (g : Str) (r : Int) : D → Bool
  | .lst ds => (ds.map (stepD g r)).all id && decide (ds.map keyD).Nodup
  | _ => false
def scrD : D → Bool
  | .tup [.str g, .int r, b, s, e] => signsD (.str g) && (numD (.int r) 201 && (marksD r b && (marksD r e && stepsD g r s)))
  | _ => false
def spUnl (K : PySem.W.Frag) : Sp := fun vs H Q _ => ∃ v, vs = [v] ∧ ((∃ p ys ks, v = .ref p ∧ SqL K H p ys ∧ Paired (KeyV K H) ks ys ∧ ks.length ≤ 999 ∧ ∀ H', Same H H' → Q (.bl (decide ks.Nodup)) H') ∨ ∃ x : Str, v = .str x ∧ x.length ≤ 4000 ∧ ∀ H', Same H H' → Q (.bl (decide (cl x).Nodup)) H')
def spSigns (K : PySem.W.Frag) : Sp := fun vs H Q _ => ∃ v d, vs = [v] ∧ Rep K H d v ∧ small d ∧ ∀ H', Same H H' → Q (.bl (signsD d)) H'
def spMark (K : PySem.W.Frag) : Sp := fun vs H Q _ => ∃ v d r, vs = [v, .int r] ∧ Rep K H d v ∧ Q (.bl (markD r d)) H
def spStp (K : PySem.W.Frag) : Sp := fun vs H Q _ => ∃ v d g r, vs = [v, .str g, .int r] ∧ Rep K H d v ∧ small d ∧ Q (.bl (stepD g r d)) H
def spMarks (K : PySem.W.Frag) : Sp := fun vs H Q _ => ∃ v d r, vs = [v, .int r] ∧ Rep K H d v ∧ small d ∧ ∀ H', Same H H' → Q (.bl (marksD r d)) H'
def spStps (K : PySem.W.Frag) : Sp := fun vs H Q _ => ∃ v d g r, vs = [v, .str g, .int r] ∧ Rep K H d v ∧ small d ∧ ∀ H', Same H H' → Q (.bl (stepsD g r d)) H'
def spScr (K : PySem.W.Frag) : Sp := fun vs H Q _ => ∃ v d, vs = [v] ∧ Rep K H d v ∧ small d ∧ ∀ H', Same H H' → Q (.bl (scrD d)) H'
theorem Rep.tup2 {K : PySem.W.Frag} {H : Hp} {ds : List D} {v : V} (h : Rep K H (.tup ds) v) : ∃ a xs, v = .ref a ∧ SqT K H a xs ∧ Reps K H ds xs := by unfold Rep at h; exact h
theorem Rep.lst2 {K : PySem.W.Frag} {H : Hp} {ds : List D} {v : V} (h : Rep K H (.lst ds) v) : ∃ a xs, v = .ref a ∧ SqL K H a xs ∧ Reps K H ds xs := by unfold Rep at h; exact h
theorem mark_not {r : Int} {d : D} (h : tupD d 2 = false) : markD r d = false := by
  unfold markD
  split
  · exact absurd h (by simp [tupD])
  · rfl
theorem step_not {g : Str} {r : Int} {d : D} (h : tupD d 4 = false) : stepD g r d = false := by
  unfold stepD
  split
  · exact absurd h (by simp [tupD])
  · rfl
theorem tup_len {d : D} {n : Nat} (h : tupD d (n : Int) = true) : ∃ ds, d = .tup ds ∧ ds.length = n := by
  cases d with
  | tup ds => exact ⟨ds, rfl, by have := of_decide_eq_true (show decide ((ds.length : Int) = n) = true from h); omega⟩
  | _ => cases h

theorem markKey {K : PySem.W.Frag} {H : Hp} {r : Int} {d : D} {v : V} (h : markD r d = true) (rep : Rep K H d v) : KeyV K H (keyD d) v := by
  unfold markD at h
  split at h
  · rename_i a b
    obtain ⟨p, xs, rfl, hq, rs⟩ := Rep.tup2 rep
    obtain ⟨v0, r0, rfl, p0, rs⟩ := rs.inv
    obtain ⟨v1, r1, rfl, p1, rs⟩ := rs.inv
    cases rs.inv0
    rw [Bool.and_eq_true] at h
    cases a with
    | int i =>
      cases b with
      | str x =>
        unfold Rep at p0 p1
        subst p0; subst p1
        exact ⟨p, rfl, hq⟩
      | _ => exact absurd h.2 Bool.false_ne_true
    | _ => exact absurd h.1 Bool.false_ne_true
  · cases h
theorem stepKey {K : PySem.W.Frag} {H : Hp} {g : Str} {r : Int} {d : D} {v : V} (h : stepD g r d = true) (rep : Rep K H d v) : KeyV K H (keyD d) v := by
  unfold stepD at h
  split at h
  · rename_i a y c e
    obtain ⟨p, xs, rfl, hq, rs⟩ := Rep.tup2 rep
    obtain ⟨v0, r0, rfl, p0, rs⟩ := rs.inv
    obtain ⟨v1, r1, rfl, p1, rs⟩ := rs.inv
    obtain ⟨v2, r2, rfl, p2, rs⟩ := rs.inv
    obtain ⟨v3, r3, rfl, p3, rs⟩ := rs.inv
    cases rs.inv0
    simp only [Bool.and_eq_true] at h
    obtain ⟨ha, he, _, _, hw⟩ := h
    cases a with
    | int i =>
      cases e with
      | int j =>
        cases c with
        | str x =>
          unfold Rep at p0 p1 p2 p3
          subst p0; subst p1; subst p2; subst p3
          exact ⟨p, rfl, hq⟩
        | _ => exact absurd hw Bool.false_ne_true
      | _ => exact absurd he Bool.false_ne_true
    | _ => exact absurd ha Bool.false_ne_true
  · cases h
theorem keys_of {K : PySem.W.Frag} {H : Hp} {f : D → Bool} (hk : ∀ d v, f d = true → Rep K H d v → KeyV K H (keyD d) v) : ∀ {ds : List D} {vs : List V}, Reps K H ds vs → (∀ d ∈ ds, f d = true) → Paired (KeyV K H) (ds.map keyD) vs
  | [], _, h, _ => by rw [h.inv0]; exact .nil
  | d :: ds, _, h, a => by
    obtain ⟨v, r, rfl, q, t⟩ := h.inv
    exact .cons (hk d v (a d (List.mem_cons_self ..)) q) (keys_of hk t fun e he => a e (List.mem_cons_of_mem _ he))
theorem all_id {α : Type} {f : α → Bool} {xs : List α} (h : (xs.map f).all id = true) : ∀ x ∈ xs, f x = true := fun x hx => List.all_eq_true.mp h (f x) (List.mem_map_of_mem hx)
theorem Reps.at {K : PySem.W.Frag} {H : Hp} {ds : List D} {vs : List V} {i : Nat} {v : V} (h : Reps K H ds vs) (e : vs[i]? = some v) : ∃ d, ds[i]? = some d ∧ Rep K H d v := by
  have hi : i < vs.length := (List.getElem?_eq_some_iff.mp e).1
  rw [← h.length] at hi
  obtain ⟨v', e', q⟩ := h.get (List.getElem?_eq_getElem hi)
  rw [e] at e'
  cases e'
  exact ⟨_, List.getElem?_eq_getElem hi, q⟩

theorem scr_not {d : D} (h : tupD d 5 = false) : scrD d = false := by
  unfold scrD
  split
  · exact absurd h (by simp [tupD])
  · rfl

def spLets (K : PySem.W.Frag) : Sp := fun vs H Q _ => ∃ v d, vs = [v] ∧ Rep K H d v ∧ small d ∧ ∀ H', Same H H' → Q (.bl (wordD d)) H'
theorem abc_mem (c : Nat) : c ∈ cl ("abcdefghijklmnopqrstuvwxyz" : Str) ↔ 97 ≤ c ∧ c ≤ 122 := by
  have e : cl ("abcdefghijklmnopqrstuvwxyz" : Str) = List.range' 97 26 := by decide +kernel
  rw [e, List.mem_range'_1]; omega

def goodD (g : Str) (r : Int) (d : D) : Bool := if cl g = [] then markD r d else stepD g r d
def spGood (K : PySem.W.Frag) : Sp := fun vs H Q _ => ∃ v d g r, vs = [v, .int r, .str g] ∧ Rep K H d v ∧ small d ∧ wordS g = true ∧ ∀ H', Same H H' → Q (.bl (goodD g r d)) H'
theorem good_not {g : Str} {r : Int} {d : D} (h : tupD d (if cl g = [] then 2 else 4) = false) : goodD g r d = false := by
  unfold goodD
  split
  · rename_i c; rw [if_pos c] at h; exact mark_not h
  · rename_i c; rw [if_neg c] at h; exact step_not h
theorem one_word {g y : Str} (hg : wordS g = true) (h1 : y.length = 1) (hi : inS y g = true) : wordS y = true := by
  obtain ⟨c, hc⟩ : ∃ c, cl y = [c] := by
    have : (cl y).length = 1 := by rw [cl_length]; exact h1
    match cl y, this with
    | [c], _ => exact ⟨c, rfl⟩
  have e : y = ⟨#[c]⟩ := str_ext (by rw [hc, cl_one])
  unfold inS at hi
  rw [e, in_one] at hi
  have := List.all_eq_true.mp hg c (of_decide_eq_true hi)
  unfold wordS
  rw [hc, List.all_cons, List.all_nil, Bool.and_true]
  exact this
theorem mark_shape {r : Int} {d : D} (h : markD r d = true) : ∃ m : Mk, d = dMk m := by
  unfold markD at h
  split at h
  · rename_i a b
    rw [Bool.and_eq_true] at h
    cases a with
    | int i =>
      cases b with
      | str x => exact ⟨(i, x), rfl⟩
      | _ => exact absurd h.2 Bool.false_ne_true
    | _ => exact absurd h.1 Bool.false_ne_true
  · cases h
theorem step_shape {g : Str} {r : Int} {d : D} (h : stepD g r d = true) : ∃ t : Stp, d = dSt t := by
  unfold stepD at h
  split at h
  · rename_i a y c e
    simp only [Bool.and_eq_true] at h
    obtain ⟨ha, he, _, _, hw⟩ := h
    cases a with
    | int i =>
      cases e with
      | int j =>
        cases c with
        | str x => exact ⟨(i, y, x, j), rfl⟩
        | _ => exact absurd hw Bool.false_ne_true
      | _ => exact absurd he Bool.false_ne_true
    | _ => exact absurd ha Bool.false_ne_true
  · cases h
theorem key_dMk (a b : Mk) : keyD (dMk a) = keyD (dMk b) ↔ a = b := by
  obtain ⟨i, x⟩ := a; obtain ⟨j, y⟩ := b
  constructor
  · intro h
    have h : ([Sum.inl i, Sum.inr x] : List Key) = [Sum.inl j, Sum.inr y] := h
    injection h with h1 h2
    injection h2 with h2 h3
    injection h1 with h1
    injection h2 with h2
    rw [h1, h2]
  · intro h; rw [h]
theorem key_dSt (a b : Stp) : keyD (dSt a) = keyD (dSt b) ↔ a = b := by
  obtain ⟨i, x, z, k⟩ := a; obtain ⟨j, y, u, l⟩ := b
  constructor
  · intro h
    have h : ([Sum.inl i, Sum.inr x, Sum.inr z, Sum.inl k] : List Key) = [Sum.inl j, Sum.inr y, Sum.inr u, Sum.inl l] := h
    injection h with h1 h2
    injection h2 with h2 h3
    injection h3 with h3 h4
    injection h4 with h4 h5
    injection h1 with h1
    injection h2 with h2
    injection h3 with h3
    injection h4 with h4
    rw [h1, h2, h3, h4]
  · intro h; rw [h]
theorem good_eq {g : Str} {r : Int} {a b : D} (ha : goodD g r a = true) (hb : goodD g r b = true) : eqD a b = decide (keyD a = keyD b) := by
  unfold goodD at ha hb
  by_cases c : cl g = []
  · rw [if_pos c] at ha hb
    obtain ⟨m, rfl⟩ := mark_shape ha
    obtain ⟨n, rfl⟩ := mark_shape hb
    rw [eqD_dMk]
    exact decide_eq_decide.mpr (key_dMk m n).symm
  · rw [if_neg c] at ha hb
    obtain ⟨m, rfl⟩ := step_shape ha
    obtain ⟨n, rfl⟩ := step_shape hb
    rw [eqD_dSt]
    exact decide_eq_decide.mpr (key_dSt m n).symm
theorem good_deep {g : Str} {r : Int} {a : D} (ha : goodD g r a = true) : deep a ≤ 1 := by
  unfold goodD at ha
  by_cases c : cl g = []
  · rw [if_pos c] at ha
    obtain ⟨m, rfl⟩ := mark_shape ha
    exact deep_dMk m
  · rw [if_neg c] at ha
    obtain ⟨m, rfl⟩ := step_shape ha
    exact deep_dSt m
theorem goods_deep {g : Str} {r : Int} : ∀ {ds : List D}, (∀ d ∈ ds, goodD g r d = true) → deeps ds ≤ 1
  | [], _ => Nat.zero_le _
  | d :: ds, h => by
    unfold deeps
    exact Nat.max_le.mpr ⟨good_deep (h d (List.mem_cons_self ..)), goods_deep fun e he => h e (List.mem_cons_of_mem _ he)⟩
theorem good_any {g : Str} {r : Int} {d : D} (hd : goodD g r d = true) : ∀ {ds : List D}, (∀ e ∈ ds, goodD g r e = true) → ((ds.any fun e => eqD e d) = true ↔ keyD d ∈ ds.map keyD)
  | [], _ => by simp
  | e :: ds, h => by
    rw [List.any_cons, Bool.or_eq_true, good_any hd (ds := ds) (fun x hx => h x (List.mem_cons_of_mem _ hx)), good_eq (h e (List.mem_cons_self ..)) hd, decide_eq_true_eq, List.map_cons, List.mem_cons]
    exact or_congr_left ⟨fun z => z.symm, fun z => z.symm⟩
def okL (g : Str) (r : Int) : D → Bool
  | .lst ds => (ds.map (goodD g r)).all id && decide (ds.map keyD).Nodup
  | _ => false
theorem okL_mark (r : Int) (d : D) : okL "" r d = marksD r d := by
  have e : goodD "" r = markD r := by funext x; unfold goodD; rw [if_pos (by decide +kernel)]
  cases d <;> simp only [okL, marksD, e]
theorem okL_step {g : Str} (hg : ¬ cl g = []) (r : Int) (d : D) : okL g r d = stepsD g r d := by
  have e : goodD g r = stepD g r := by funext x; unfold goodD; rw [if_neg hg]
  cases d <;> simp only [okL, stepsD, e]
def Upto (g : Str) (r : Int) (ds : List D) (i : Nat) : Prop := (∀ d ∈ ds.take i, goodD g r d = true) ∧ ((ds.take i).map keyD).Nodup
theorem Upto.all {g : Str} {r : Int} {ds : List D} (h : Upto g r ds ds.length) : okL g r (.lst ds) = true := by
  unfold Upto at h
  rw [List.take_length] at h
  show ((ds.map (goodD g r)).all id && decide (ds.map keyD).Nodup) = true
  rw [decide_eq_true h.2, Bool.and_true, List.all_eq_true]
  intro b hb
  obtain ⟨d, hd, rfl⟩ := List.mem_map.mp hb
  exact h.1 d hd
theorem Upto.next {g : Str} {r : Int} {ds : List D} {i : Nat} {d : D} (h : Upto g r ds i) (hd : ds[i]? = some d) (hg : goodD g r d = true) (hn : keyD d ∉ (ds.take i).map keyD) : Upto g r ds (i + 1) := by
  unfold Upto
  rw [take_get hd]
  refine ⟨fun e he => ?_, ?_⟩
  · rcases List.mem_append.mp he with he | he
    · exact h.1 e he
    · rw [List.mem_singleton.mp he]; exact hg
  · rw [List.map_append]
    exact nodup_snoc h.2 hn
theorem okL_bad {g : Str} {r : Int} {ds : List D} {i : Nat} {d : D} (hd : ds[i]? = some d) (h : goodD g r d = false) : okL g r (.lst ds) = false := by
  show ((ds.map (goodD g r)).all id && decide (ds.map keyD).Nodup) = false
  rw [show (ds.map (goodD g r)).all id = false from List.all_eq_false.mpr ⟨false, List.mem_map.mpr ⟨d, List.mem_of_getElem? hd, h⟩, by simp⟩]
  rfl
theorem okL_twice {g : Str} {r : Int} {ds : List D} {i : Nat} {d : D} (hd : ds[i]? = some d) (h : keyD d ∈ (ds.take i).map keyD) : okL g r (.lst ds) = false := by
  show ((ds.map (goodD g r)).all id && decide (ds.map keyD).Nodup) = false
  have : ¬ (ds.map keyD).Nodup := fun z => by
    have e : ds = ds.take (i + 1) ++ ds.drop (i + 1) := (List.take_append_drop _ _).symm
    rw [e, List.map_append, take_get hd, List.map_append] at z
    have z := (List.nodup_append.mp z).1
    exact (List.nodup_append.mp z).2.2 _ h _ (by simp) rfl
  rw [decide_eq_false this, Bool.and_false]
theorem scr_of {gs : Str} {ro : Int} {d2 d3 d4 : D} (h0 : signsD (.str gs) = true) (h1 : numD (.int ro) 201 = true) : scrD (.tup [.str gs, .int ro, d2, d3, d4]) = (okL "" ro d2 && (okL "" ro d4 && okL gs ro d3)) := by
  have hne : ¬ cl gs = [] := fun z => by
    have h0 : (wordS gs && (!decide (cl gs = []) && decide (cl gs).Nodup)) = true := h0
    rw [decide_eq_true z] at h0; simp at h0
  show (signsD (.str gs) && (numD (.int ro) 201 && (marksD ro d2 && (marksD ro d4 && stepsD gs ro d3)))) = _
  rw [h0, h1, okL_mark, okL_mark, okL_step hne]
  rfl
theorem wordS_nil : wordS "" = true := by decide +kernel
theorem reps_take {K : PySem.W.Frag} {H : Hp} : ∀ (i : Nat) {ds : List D} {vs : List V}, Reps K H ds vs → Reps K H (ds.take i) (vs.take i)
  | 0, _, _, _ => by simp only [List.take_zero]; exact .nil
  | i + 1, [], _, h => by rw [h.inv0]; exact .nil
  | i + 1, d :: ds, _, h => by
    obtain ⟨v, r, rfl, q, t⟩ := h.inv
    exact .cons q (reps_take i t)

def AnyV (K : PySem.W.Frag) (H : Hp) (v : V) : Prop := ∃ d, small d ∧ Rep K H d v
theorem AnyV.mono {K : PySem.W.Frag} {H H' : Hp} {v : V} (g : Same H H') : AnyV K H v → AnyV K H' v := fun ⟨d, s, r⟩ => ⟨d, s, Rep.mono g _ _ r⟩
theorem any_all {K : PySem.W.Frag} {H : Hp} : ∀ {vs : List V}, (∀ v ∈ vs, AnyV K H v) → ∃ ds, Reps K H ds vs ∧ smalls ds
  | [], _ => ⟨[], .nil, by unfold smalls; trivial⟩
  | v :: vs, h => by
    obtain ⟨ds, r, s⟩ := any_all (vs := vs) fun x hx => h x (List.mem_cons_of_mem _ hx)
    obtain ⟨d, sd, rd⟩ := h v (List.mem_cons_self ..)
    exact ⟨d :: ds, .cons rd r, by unfold smalls; exact ⟨sd, s⟩⟩
theorem any_tup {K : PySem.W.Frag} {H : Hp} {b : Addr} {vs : List V} (h : SqT K H b vs) (ha : ∀ v ∈ vs, AnyV K H v) : AnyV K H (.ref b) := by
  obtain ⟨ds, r, s⟩ := any_all ha
  exact ⟨.tup ds, by unfold small; exact s, by unfold Rep; exact ⟨b, vs, rfl, h, r⟩⟩
theorem any_lst {K : PySem.W.Frag} {H : Hp} {b : Addr} {vs : List V} (h : SqL K H b vs) (hl : vs.length ≤ 900) (ha : ∀ v ∈ vs, AnyV K H v) : AnyV K H (.ref b) := by
  obtain ⟨ds, r, s⟩ := any_all ha
  exact ⟨.lst ds, by unfold small; exact ⟨by rw [r.length]; exact hl, s⟩, by unfold Rep; exact ⟨b, vs, rfl, h, r⟩⟩
def Fl (v : V) : Prop := v = .non ∨ (∃ b, v = .bl b) ∨ (∃ i, v = .int i) ∨ ∃ x : Str, v = .str x ∧ x.length ≤ 4000
theorem Fl.any {K : PySem.W.Frag} {H : Hp} {v : V} (h : Fl v) : AnyV K H v := by
  rcases h with rfl | ⟨b, rfl⟩ | ⟨i, rfl⟩ | ⟨x, rfl, hx⟩
  · exact ⟨.non, by unfold small; trivial, by unfold Rep; rfl⟩
  · exact ⟨.bl b, by unfold small; trivial, by unfold Rep; rfl⟩
  · exact ⟨.int i, by unfold small; trivial, by unfold Rep; rfl⟩
  · exact ⟨.str x, by unfold small; exact hx, by unfold Rep; rfl⟩
theorem fl_non : Fl .non := .inl rfl
theorem fl_bl (b : Bool) : Fl (.bl b) := .inr (.inl ⟨b, rfl⟩)
theorem fl_int (i : Int) : Fl (.int i) := .inr (.inr (.inl ⟨i, rfl⟩))
theorem fl_str {x : Str} (h : x.length ≤ 4000) : Fl (.str x) := .inr (.inr (.inr ⟨x, rfl, h⟩))
def Prt (v : V) : Prop := (∃ i, v = .int i) ∨ ∃ x : Str, v = .str x ∧ x.length ≤ 40
theorem Prt.fl {v : V} (h : Prt v) : Fl v := by
  rcases h with ⟨i, rfl⟩ | ⟨x, rfl, hx⟩
  · exact fl_int i
  · exact fl_str (by omega)
def FlatO (o : HO) : Prop := ∃ ys, (o = .tup ys ∨ o = .lst ys) ∧ (∀ y ∈ ys, Fl y) ∧ ys.length ≤ 5
theorem FlatO.any {K : PySem.W.Frag} {H : Hp} {l : Addr} {o : HO} (h : FlatO o) (e : H l = some o) : AnyV K H (.ref l) := by
  obtain ⟨ys, ho, hy, hl⟩ := h
  rcases ho with rfl | rfl
  · exact any_tup (SqT.of e) fun v hv => (hy v hv).any
  · exact any_lst (SqL.of e) (by omega) fun v hv => (hy v hv).any
def PartV (K : PySem.W.Frag) (H : Hp) (v : V) : Prop := ∃ b ys, v = .ref b ∧ SqT K H b ys ∧ 1 ≤ ys.length ∧ ys.length ≤ 4 ∧ ∀ y ∈ ys, Prt y
theorem PartV.mono {K : PySem.W.Frag} {H H' : Hp} {v : V} (g : Grow H H') : PartV K H v → PartV K H' v := fun ⟨b, ys, e, h, r⟩ => ⟨b, ys, e, g.seqT h, r⟩
theorem PartV.any {K : PySem.W.Frag} {H : Hp} {v : V} : PartV K H v → AnyV K H v := fun ⟨b, ys, e, h, _, _, r⟩ => e ▸ any_tup h fun y hy => (r y hy).fl.any
theorem part_mk {K : PySem.W.Frag} {H : Hp} {m : Mk} {v : V} (hw : m.2.length ≤ 40) : MkV K H m v → PartV K H v := fun ⟨b, e, h⟩ => ⟨b, _, e, h, by simp, by simp, fun y hy => by
  simp only [List.mem_cons, List.not_mem_nil, or_false] at hy
  rcases hy with rfl | rfl
  · exact .inl ⟨_, rfl⟩
  · exact .inr ⟨_, rfl, hw⟩⟩
theorem part_st {K : PySem.W.Frag} {H : Hp} {t : Stp} {v : V} (h1 : t.2.1.length ≤ 40) (hw : t.2.2.1.length ≤ 40) : StV K H t v → PartV K H v := fun ⟨b, e, h⟩ => ⟨b, _, e, h, by simp, by simp, fun y hy => by
  simp only [List.mem_cons, List.not_mem_nil, or_false] at hy
  rcases hy with rfl | rfl | rfl | rfl
  · exact .inl ⟨_, rfl⟩
  · exact .inr ⟨_, rfl, h1⟩
  · exact .inr ⟨_, rfl, hw⟩
  · exact .inl ⟨_, rfl⟩⟩
theorem paired_all {α : Type} {F : α → V → Prop} {G : V → Prop} {xs : List α} {vs : List V} (h : Paired F xs vs) (hg : ∀ x ∈ xs, ∀ v, F x v → G v) : ∀ v ∈ vs, G v := by
  intro v hv
  obtain ⟨i, hi⟩ := List.getElem?_of_mem hv
  obtain ⟨x, hx, f⟩ := paired_get h hi
  exact hg x (List.mem_of_getElem? hx) v f
def spBentP (K : PySem.W.Frag) : Sp := fun vs H Q _ => ∃ a ys way, vs = [.ref a, .int way] ∧ SqT K H a ys ∧ 1 ≤ ys.length ∧ ys.length ≤ 4 ∧ (∀ y ∈ ys, Prt y) ∧ ∀ l H' o, Same H H' → H l = none → H' l = some o → FlatO o → Q (.ref l) H'
theorem ixN_in {n : Nat} {j : Nat} (h : j < n) : ixN n (j : Int) = some j := by
  unfold ixN
  rw [if_pos (by omega), if_pos (by omega)]
  rfl
theorem mem_set {α : Type} {xs : List α} {j : Nat} {x y : α} (h : y ∈ xs.set j x) : y = x ∨ y ∈ xs := (List.mem_or_eq_of_mem_set h).symm
theorem mem_cutV {xs : List V} {lo hi : Option Int} {v : V} (h : v ∈ cutV xs lo hi) : v ∈ xs := List.mem_of_mem_drop (List.mem_of_mem_take h)
theorem same_both {A B : Hp} (g : Same A B) (p : Addr) (o : HO) : Same (upd A p o) (upd B p o) := fun b u h => by
  by_cases e : b = p
  · subst e; rw [upd_same] at h ⊢; exact h
  · rw [upd_ne e] at h ⊢; exact g b u h
theorem same_in {A B : Hp} {l : Addr} {o : HO} (g : Same A B) (h : B l = some o) : Same (upd A l o) B := fun b u e => by
  by_cases z : b = l
  · subst z; rw [upd_same] at e; rw [h]; exact e
  · rw [upd_ne z] at e; exact g b u e

def LstOk (K : PySem.W.Frag) (H : Hp) (px : Addr) (zs : List V) : Prop := H px = some (.lst zs) ∧ zs.length ≤ 95 ∧ ∀ z ∈ zs, PartV K H z
theorem LstOk.mono {K : PySem.W.Frag} {H H' : Hp} {px : Addr} {zs : List V} (g : Same H H') : LstOk K H px zs → LstOk K H' px zs := fun ⟨h1, h2, h3⟩ => ⟨g _ _ h1, h2, fun z hz => PartV.mono (Same.grow g) (h3 z hz)⟩
theorem LstOk.any {K : PySem.W.Frag} {H : Hp} {px : Addr} {zs : List V} : LstOk K H px zs → AnyV K H (.ref px) := fun ⟨h1, h2, h3⟩ => any_lst (SqL.of h1) (by omega) fun z hz => (h3 z hz).any
theorem LstOk.off {K : PySem.W.Frag} {H : Hp} {px py : Addr} {zs xs ws : List V} (h : LstOk K H px zs) (hy : H py = some (.lst xs)) (ne : px ≠ py) : LstOk K (upd H py (.lst ws)) px zs := ⟨by rw [upd_ne ne]; exact h.1, h.2.1, fun z hz => PartV.mono (grow_upd hy _) (h.2.2 z hz)⟩
def orig (g : Str) (r : Int) (pb ps pe : Addr) : List V := [.str g, .int r, .ref pb, .ref ps, .ref pe]
structure Three (K : PySem.W.Frag) (H : Hp) (pb ps pe : Addr) (xb xs xe : List V) : Prop where
  b : LstOk K H pb xb
  s : LstOk K H ps xs
  e : LstOk K H pe xe
theorem Three.mono {K : PySem.W.Frag} {H H' : Hp} {pb ps pe : Addr} {xb xs xe : List V} (g : Same H H') : Three K H pb ps pe xb xs xe → Three K H' pb ps pe xb xs xe := fun ⟨h1, h2, h3⟩ => ⟨h1.mono g, h2.mono g, h3.mono g⟩
theorem orig_any {K : PySem.W.Frag} {H : Hp} {g : Str} {r : Int} {pb ps pe : Addr} {xb xs xe : List V} (hg : g.length ≤ 5) (T : Three K H pb ps pe xb xs xe) : ∀ y ∈ orig g r pb ps pe, AnyV K H y := by
  intro y hy
  simp only [orig, List.mem_cons, List.not_mem_nil, or_false] at hy
  rcases hy with rfl | rfl | rfl | rfl | rfl
  · exact (fl_str (by omega)).any
  · exact (fl_int _).any
  · exact T.b.any
  · exact T.s.any
  · exact T.e.any
theorem orig_at {K : PySem.W.Frag} {H0 H : Hp} {g : Str} {r : Int} {pb ps pe : Addr} {xb xs xe : List V} (hg : g.length ≤ 5) (A : Apart H0 pb ps pe) (T : Three K H pb ps pe xb xs xe) {wh : Int} (h1 : 1 < wh) (h2 : wh < 5) :
    ∃ (j : Nat) (px : Addr) (zs : List V), wh = (j : Int) ∧ j < 5 ∧ (orig g r pb ps pe)[j]? = some (.ref px) ∧ LstOk K H px zs ∧ H0 px = none ∧
      ∀ (H' : Hp) (ws : List V), Same H H' → ws.length ≤ 900 → (∀ w ∈ ws, AnyV K (upd H' px (.lst ws)) w) → ∀ y ∈ orig g r pb ps pe, AnyV K (upd H' px (.lst ws)) y := by
  obtain ⟨j, rfl⟩ := Int.eq_ofNat_of_zero_le (show 0 ≤ wh by omega)
  have hj : j = 2 ∨ j = 3 ∨ j = 4 := by omega
  rcases hj with rfl | rfl | rfl
  · refine ⟨2, pb, xb, rfl, by decide, rfl, T.b, A.nb, fun H' ws g' hl hw y hy => ?_⟩
    have T' := T.mono g'
    simp only [orig, List.mem_cons, List.not_mem_nil, or_false] at hy
    rcases hy with rfl | rfl | rfl | rfl | rfl
    · exact (fl_str (by omega)).any
    · exact (fl_int _).any
    · exact any_lst (SqL.of upd_same) hl hw
    · exact (T'.s.off T'.b.1 A.bs.symm).any
    · exact (T'.e.off T'.b.1 A.be.symm).any
  · refine ⟨3, ps, xs, rfl, by decide, rfl, T.s, A.ns, fun H' ws g' hl hw y hy => ?_⟩
    have T' := T.mono g'
    simp only [orig, List.mem_cons, List.not_mem_nil, or_false] at hy
    rcases hy with rfl | rfl | rfl | rfl | rfl
    · exact (fl_str (by omega)).any
    · exact (fl_int _).any
    · exact (T'.b.off T'.s.1 A.bs).any
    · exact any_lst (SqL.of upd_same) hl hw
    · exact (T'.e.off T'.s.1 A.se.symm).any
  · refine ⟨4, pe, xe, rfl, by decide, rfl, T.e, A.ne, fun H' ws g' hl hw y hy => ?_⟩
    have T' := T.mono g'
    simp only [orig, List.mem_cons, List.not_mem_nil, or_false] at hy
    rcases hy with rfl | rfl | rfl | rfl | rfl
    · exact (fl_str (by omega)).any
    · exact (fl_int _).any
    · exact (T'.b.off T'.e.1 A.be).any
    · exact (T'.s.off T'.e.1 A.se).any
    · exact any_lst (SqL.of upd_same) hl hw
theorem any_upd {K : PySem.W.Frag} {A : Hp} {p : Addr} {xs : List V} {o : HO} {v : V} (hp : A p = some (.lst xs)) (h : PartV K A v ∨ Fl v) : AnyV K (upd A p o) v := by
  rcases h with h | h
  · exact (PartV.mono (grow_upd hp _) h).any
  · exact h.any
def spBent (K : PySem.W.Frag) : Sp := fun vs H Q _ => ∃ v way s pb ps pe H0 pl, vs = [v, .int way] ∧ ScN K H s v pb ps pe ∧ Same H0 H ∧ Apart H0 pb ps pe ∧ OkS pl s 95 ∧ s.signs.length ≤ 5 ∧ ∀ v' H', Same H0 H' → AnyV K H' v' → Q v' H'
theorem any_nil {K : PySem.W.Frag} {H : Hp} {b : Addr} (h : H b = some (.tup [])) : AnyV K H (.ref b) := any_tup (SqT.of h) fun v hv => nomatch hv

def HX (K : PySem.W.Frag) (H0 : Hp) (pb ps pe : Addr) (pl : Bool) (g : Str) (r : Int) (n : Nat) (s : Scr) (H : Hp) : Prop := ∃ B S E xb xs xe, s = ⟨g, r, B, S, E⟩ ∧ Same H0 H ∧ H pb = some (.lst xb) ∧ H ps = some (.lst xs) ∧ H pe = some (.lst xe) ∧
  Paired (MkV K H) B xb ∧ Paired (StV K H) S xs ∧ Paired (MkV K H) E xe ∧ OkS pl ⟨g, r, B, S, E⟩ n
theorem HX.mono {K : PySem.W.Frag} {H0 H H' : Hp} {pb ps pe : Addr} {pl : Bool} {g : Str} {r : Int} {n m : Nat} {s : Scr} (h : HX K H0 pb ps pe pl g r n s H) (z : Same H H') (le : n ≤ m) : HX K H0 pb ps pe pl g r m s H' := by
  obtain ⟨B, S, E, xb, xs, xe, h0, h1, h2, h3, h4, h5, h6, h7, h8⟩ := h
  have g' := Same.grow z
  exact ⟨B, S, E, xb, xs, xe, h0, h1.trans z, z _ _ h2, z _ _ h3, z _ _ h4, paired_mono (fun _ _ => MkV.mono g') h5, paired_mono (fun _ _ => StV.mono g') h6, paired_mono (fun _ _ => MkV.mono g') h7, h8.mono le⟩
theorem HX.addStep {K : PySem.W.Frag} {H0 H : Hp} {pb ps pe : Addr} {pl : Bool} {g : Str} {r : Int} {n : Nat} {B : List Mk} {S : List Stp} {E : List Mk} {xb xs xe : List V} {t : Stp} {v : V} (A : Apart H0 pb ps pe) (h1 : Same H0 H) (h2 : H pb = some (.lst xb)) (h3 : H ps = some (.lst xs)) (h4 : H pe = some (.lst xe))
    (h5 : Paired (MkV K H) B xb) (h6 : Paired (StV K H) S xs) (h7 : Paired (MkV K H) E xe) (h8 : OkS pl ⟨g, r, B, S ++ [t], E⟩ n) (hv : StV K H t v) : HX K H0 pb ps pe pl g r n ⟨g, r, B, S ++ [t], E⟩ (upd H ps (.lst (xs ++ [v]))) := by
  have gr := grow_upd h3 (.lst (xs ++ [v]))
  exact ⟨B, S ++ [t], E, xb, xs ++ [v], xe, rfl, same_updN h1 A.ns, by rw [upd_ne A.bs]; exact h2, upd_same, by rw [upd_ne A.se.symm]; exact h4, paired_mono (fun _ _ => MkV.mono gr) h5,
    paired_append (paired_mono (fun _ _ => StV.mono gr) h6) (.cons (StV.mono gr hv) .nil), paired_mono (fun _ _ => MkV.mono gr) h7, h8⟩
theorem HX.addEnd {K : PySem.W.Frag} {H0 H : Hp} {pb ps pe : Addr} {pl : Bool} {g : Str} {r : Int} {n : Nat} {B : List Mk} {S : List Stp} {E : List Mk} {xb xs xe : List V} {t : Mk} {v : V} (A : Apart H0 pb ps pe) (h1 : Same H0 H) (h2 : H pb = some (.lst xb)) (h3 : H ps = some (.lst xs)) (h4 : H pe = some (.lst xe))
    (h5 : Paired (MkV K H) B xb) (h6 : Paired (StV K H) S xs) (h7 : Paired (MkV K H) E xe) (h8 : OkS pl ⟨g, r, B, S, E ++ [t]⟩ n) (hv : MkV K H t v) : HX K H0 pb ps pe pl g r n ⟨g, r, B, S, E ++ [t]⟩ (upd H pe (.lst (xe ++ [v]))) := by
  have gr := grow_upd h4 (.lst (xe ++ [v]))
  exact ⟨B, S, E ++ [t], xb, xs, xe ++ [v], rfl, same_updN h1 A.ne, by rw [upd_ne A.be]; exact h2, by rw [upd_ne A.se]; exact h3, upd_same, paired_mono (fun _ _ => MkV.mono gr) h5,
    paired_mono (fun _ _ => StV.mono gr) h6, paired_append (paired_mono (fun _ _ => MkV.mono gr) h7) (.cons (MkV.mono gr hv) .nil), h8⟩
theorem HX.addBegin {K : PySem.W.Frag} {H0 H : Hp} {pb ps pe : Addr} {pl : Bool} {g : Str} {r : Int} {n : Nat} {B : List Mk} {S : List Stp} {E : List Mk} {xb xs xe : List V} {t : Mk} {v : V} (A : Apart H0 pb ps pe) (h1 : Same H0 H) (h2 : H pb = some (.lst xb)) (h3 : H ps = some (.lst xs)) (h4 : H pe = some (.lst xe))
    (h5 : Paired (MkV K H) B xb) (h6 : Paired (StV K H) S xs) (h7 : Paired (MkV K H) E xe) (h8 : OkS pl ⟨g, r, B ++ [t], S, E⟩ n) (hv : MkV K H t v) : HX K H0 pb ps pe pl g r n ⟨g, r, B ++ [t], S, E⟩ (upd H pb (.lst (xb ++ [v]))) := by
  have gr := grow_upd h2 (.lst (xb ++ [v]))
  exact ⟨B ++ [t], S, E, xb ++ [v], xs, xe, rfl, same_updN h1 A.nb, upd_same, by rw [upd_ne A.bs.symm]; exact h3, by rw [upd_ne A.be.symm]; exact h4, paired_append (paired_mono (fun _ _ => MkV.mono gr) h5) (.cons (MkV.mono gr hv) .nil),
    paired_mono (fun _ _ => StV.mono gr) h6, paired_mono (fun _ _ => MkV.mono gr) h7, h8⟩
def dig1 (c k : Int) : Int := (c * 48271 + k * 69621 + 11) % 2147483629
def dig2 (n : Int) : Int := n * n % 2147483587
def dig3 (n : Int) : Int := n * 2147483563 + n * n % 2147483563
def digitsAt (ns : List Int) (k : Int) : Int := if cellAt ns 0 / 3 % 2 = 0 then cellAt ns k else dig3 (dig2 (dig1 (cellAt ns k) k))
def spDigitsX (K : PySem.W.Frag) : Sp := fun vs H Q _ => ∃ (a : Addr) (ns : List Int) (k : Int), vs = [.ref a, .int k] ∧ SqL K H a (ns.map V.int) ∧ 0 ≤ k ∧ Q (.int (digitsAt ns k)) H
theorem vint {i j : Int} : V.int i = V.int j ↔ i = j := ⟨fun h => by injection h, fun h => by rw [h]⟩
def wsize (c : Int) : Int := if c % 40 = 39 then 40 else c % 4
def wmenu (c : Int) : Str := if c / 40 % 5 = 4 then "xkb" else "abz"
def letAt (z : Str) (i : Int) : Nat := (atI (cl z) i).getD 0
def wgo (z : Str) (n : Int) : Nat → Int × Str
  | 0 => (n, "")
  | i + 1 => ((wgo z n i).1 / 3, (wgo z n i).2 ++ ⟨#[letAt z ((wgo z n i).1 % 3)]⟩)
def wordOf (c : Int) : Str := (wgo (wmenu c) (c / 200) (wsize c).toNat).2
theorem letAt_at {z : Str} {i : Int} (h0 : 0 ≤ i) (h1 : i < z.length) : atI (cl z) i = some (letAt z i) ∧ letAt z i ∈ cl z := by
  obtain ⟨c, hc, hm⟩ := at_mem (xs := cl z) (i := i) h0 (by rw [cl_length]; exact h1)
  have e : letAt z i = c := by unfold letAt; rw [hc]; rfl
  rw [e]; exact ⟨hc, hm⟩
theorem wmenu_ok (c : Int) : (wmenu c).length = 3 ∧ ∀ x ∈ cl (wmenu c), 97 ≤ x ∧ x ≤ 122 := by
  unfold wmenu
  split
  · exact ⟨by decide +kernel, by decide +kernel⟩
  · exact ⟨by decide +kernel, by decide +kernel⟩
theorem wgo_ok {z : Str} (hz : z.length = 3) (hl : ∀ x ∈ cl z, 97 ≤ x ∧ x ≤ 122) (n : Int) : ∀ i, (wgo z n i).2.length = i ∧ ∀ x ∈ cl (wgo z n i).2, 97 ≤ x ∧ x ≤ 122
  | 0 => ⟨rfl, cl_nil⟩
  | i + 1 => by
    obtain ⟨h1, h2⟩ := wgo_ok hz hl n i
    obtain ⟨_, hm⟩ := letAt_at (z := z) (i := (wgo z n i).1 % 3) (by omega) (by rw [hz]; omega)
    refine ⟨?_, fun x hx => ?_⟩
    · show ((wgo z n i).2 ++ ⟨#[letAt z ((wgo z n i).1 % 3)]⟩).length = i + 1
      rw [len_app, h1]; rfl
    · have hx : x ∈ cl ((wgo z n i).2 ++ ⟨#[letAt z ((wgo z n i).1 % 3)]⟩) := hx
      rw [cl_append] at hx
      rcases List.mem_append.mp hx with hx | hx
      · exact h2 x hx
      · rw [cl_one, List.mem_singleton] at hx
        subst hx; exact hl _ hm
theorem wsize_ok (c : Int) : 0 ≤ wsize c ∧ wsize c ≤ 40 := by unfold wsize; split <;> omega
theorem wordOf_wd (c : Int) : Wd (wordOf c) := by
  obtain ⟨h1, h2⟩ := wgo_ok (wmenu_ok c).1 (wmenu_ok c).2 (c / 200) (wsize c).toNat
  have := wsize_ok c
  exact ⟨by unfold wordOf; rw [h1]; omega, h2⟩
def spWordX : Sp := fun vs H Q _ => ∃ c : Int, vs = [.int c] ∧ ∀ (H' : Hp), Same H H' → Q (.str (wordOf c)) H'
def menuL : List V := [.str "ab", .str "ba", .str "abc", .str "cab", .str "a", .str "zyxw", .str "pbeao"]
def menuN : Nat → Str
  | 0 => "ab" | 1 => "ba" | 2 => "abc" | 3 => "cab" | 4 => "a" | 5 => "zyxw" | _ => "pbeao"
def menu (fi : Int) : Str := menuN (fi % 7).toNat
theorem menu_ok (fi : Int) : SgnOk (menu fi) := by
  unfold menu menuN
  split <;> (unfold SgnOk; decide +kernel)
theorem menu_at (fi : Int) : atI menuL (fi % 7) = some (V.str (menu fi)) := by
  have h0 : 0 ≤ fi % 7 := by omega
  have h1 : fi % 7 < 7 := by omega
  unfold menu
  generalize fi % 7 = m at h0 h1
  obtain ⟨n, rfl⟩ := Int.eq_ofNat_of_zero_le h0
  have hn : n < 7 := by omega
  match n, hn with
  | 0, _ => exact atI_nat rfl
  | 1, _ => exact atI_nat rfl
  | 2, _ => exact atI_nat rfl
  | 3, _ => exact atI_nat rfl
  | 4, _ => exact atI_nat rfl
  | 5, _ => exact atI_nat rfl
  | 6, _ => exact atI_nat rfl
def roomsA (fi : Int) (pl : Bool) : Int := fi / 7 % (if pl = true then 9 else 5)
def roomsOf (fi : Int) (pl : Bool) : Int := if pl = true ∧ fi / 500 % 6 = 1 then 11 + fi / 3000 % 4 else roomsA fi pl
theorem roomsA_ok (fi : Int) (pl : Bool) : 0 ≤ roomsA fi pl ∧ roomsA fi pl ≤ 8 := by unfold roomsA; split <;> omega
theorem roomsOf_ok (fi : Int) (pl : Bool) : 0 ≤ roomsOf fi pl ∧ roomsOf fi pl ≤ 14 := by
  have := roomsA_ok fi pl
  unfold roomsOf; split <;> omega
abbrev mx (r : Int) : Int := if r > 1 then r else 1
def cSt (pl : Bool) (r : Int) (S : List Stp) (t : Stp) (way : Int) : Prop := 0 < r ∧ way < 4 ∧ t ∉ S ∧ (pl = true → ∀ u ∈ S, ¬ (u.1 = t.1 ∧ u.2.1 = t.2.1))
def cEn (pl : Bool) (r : Int) (E : List Mk) (m : Mk) (way : Int) : Prop := 0 < r ∧ way = 4 ∧ m ∉ E ∧ (pl = true → ∀ u ∈ E, u.1 ≠ m.1)
def cBe (pl : Bool) (r : Int) (B : List Mk) (m : Mk) (way : Int) : Prop := 0 < r ∧ way = 5 ∧ m ∉ B ∧ (B.length = 0 ∨ pl = false)
open Classical in
noncomputable def addSt (pl : Bool) (s : Scr) (t : Stp) (way : Int) : Scr := if cSt pl s.rooms s.steps t way then ⟨s.signs, s.rooms, s.begins, s.steps ++ [t], s.ends⟩ else s
open Classical in
noncomputable def addEn (pl : Bool) (s : Scr) (m : Mk) (way : Int) : Scr := if cEn pl s.rooms s.ends m way then ⟨s.signs, s.rooms, s.begins, s.steps, s.ends ++ [m]⟩ else s
open Classical in
noncomputable def addBe (pl : Bool) (s : Scr) (m : Mk) (way : Int) : Scr := if cBe pl s.rooms s.begins m way then ⟨s.signs, s.rooms, s.begins ++ [m], s.steps, s.ends⟩ else s
noncomputable def put3 (pl : Bool) (s : Scr) (ro : Int) (sg wd : Str) (to way : Int) : Scr := addBe pl (addEn pl (addSt pl s (ro, sg, wd, to) way) (ro, wd) way) (ro, wd) way
noncomputable def cellS (pl : Bool) (n : Int) (s : Scr) : Scr :=
  put3 pl s (n / 6 % mx s.rooms) ⟨#[letAt s.signs (n / 6 / mx s.rooms % (s.signs.length : Int))]⟩ (wordOf (n / 6 / mx s.rooms / (s.signs.length : Int) / mx s.rooms)) (n / 6 / mx s.rooms / (s.signs.length : Int) % mx s.rooms) (n % 6)
noncomputable def loopS (ns : List Int) (at_ : Int) (pl : Bool) (s0 : Scr) : Nat → Scr
  | 0 => s0
  | i + 1 => cellS pl (digitsAt ns (at_ + 1 + (i : Int))) (loopS ns at_ pl s0 i)
open Classical in
noncomputable def fixB (fi : Int) (s : Scr) : Scr := if 0 < s.rooms ∧ s.begins = [] ∧ fi / 45 % 8 > 0 then ⟨s.signs, s.rooms, s.begins ++ [(fi / 360 % s.rooms, wordOf (fi / 3600))], s.steps, s.ends⟩ else s
open Classical in
noncomputable def fixE (fi : Int) (s : Scr) : Scr := if 0 < s.rooms ∧ s.ends = [] ∧ fi / 45 % 8 > 1 then ⟨s.signs, s.rooms, s.begins, s.steps, s.ends ++ [(fi / 361 % s.rooms, wordOf (fi / 7))]⟩ else s
def turns (ns : List Int) (at_ : Int) : Nat := ((if (ns.length : Int) < at_ + 32 then (ns.length : Int) else at_ + 32) - (at_ + 1)).toNat
noncomputable def genS (ns : List Int) (at_ : Int) (pl : Bool) : Scr :=
  fixE (cellAt ns at_) (fixB (cellAt ns at_) (loopS ns at_ pl ⟨menu (cellAt ns at_), roomsOf (cellAt ns at_) pl, [], [], []⟩ (turns ns at_)))
def spScribeX (K : PySem.W.Frag) : Sp := fun vs H Q _ => ∃ (a : Addr) (ns : List Int) (at_ : Int) (pl : Bool), vs = [.ref a, .int at_, .bl pl] ∧ SqL K H a (ns.map V.int) ∧ ns.length ≤ 63 ∧ 0 ≤ at_ ∧ at_ ≤ 63 ∧ ∀ v H' pb ps pe, NewS K H H' pl 95 (genS ns at_ pl) v pb ps pe → Q v H'
theorem ff {C : Prop} (h : ¬ C) : (false = true ↔ C) := ⟨fun z => Bool.noConfusion z, fun c => absurd c h⟩

section
variable {X : Cx} {p1 p2 p3 p4 p5 p6 p7 p8 p9 : Pos}
theorem star_tup {es rest : List Expr} {k : Nat} {pos : Pos} {env : Env} : starEach (.Tuple es k pos :: rest) env = (false, eval (.Tuple es k pos) env) :: starEach rest env := rfl
theorem star_lst {es rest : List Expr} {pos : Pos} {env : Env} : starEach (.List es pos :: rest) env = (false, eval (.List es pos) env) :: starEach rest env := rfl
theorem th_a : PE X (.Tuple [.Constant (.str "a") 0 p1, .Constant (.int 0) 0 p2, .List [] p3, .List [] p4, .List [] p5] 0 p6) (tTup (tCons (tC (V.str "a")) (tCons (tC (V.int 0)) (tCons (tLst tNil) (tCons (tLst tNil) (tCons (tLst tNil) tNil)))))) :=
  pe_tup (pa_cons pe_str (pa_cons pe_int (pa_cons (pe_lst pa_nil) (pa_cons (pe_lst pa_nil) (pa_cons (pe_lst pa_nil) pa_nil)))))
theorem th_m : PE X (.List [.Tuple [.Constant (.int 0) 0 p1, .Constant (.str "") 0 p2] 0 p3] p4) (tLst (tCons (tTup (tCons (tC (V.int 0)) (tCons (tC (V.str "")) tNil))) tNil)) :=
  pe_lst (pa_cons (hs := star_tup) (pe_tup (pa_cons pe_int (pa_cons pe_str pa_nil))) pa_nil)
theorem th_s : PE X (.List [.Tuple [.Constant (.int 0) 0 p1, .Constant (.str "a") 0 p2, .Constant (.str "") 0 p3, .Constant (.int 0) 0 p4] 0 p5] p6) (tLst (tCons (tTup (tCons (tC (V.int 0)) (tCons (tC (V.str "a")) (tCons (tC (V.str "")) (tCons (tC (V.int 0)) tNil))))) tNil)) :=
  pe_lst (pa_cons (hs := star_tup) (pe_tup (pa_cons pe_int (pa_cons pe_str (pa_cons pe_str (pa_cons pe_int pa_nil))))) pa_nil)
theorem th_b {a b c : List Expr} {q1 q2 q3 : Pos} {ta tb tc : TE} (h1 : PE X (.List a q1) ta) (h2 : PE X (.List b q2) tb) (h3 : PE X (.List c q3) tc) : PE X (.Tuple [.Constant (.str "a") 0 p1, .Constant (.int 1) 0 p2, .List a q1, .List b q2, .List c q3] 0 p6) (tTup (tCons (tC (V.str "a")) (tCons (tC (V.int 1)) (tCons ta (tCons tb (tCons tc tNil)))))) :=
  pe_tup (pa_cons pe_str (pa_cons pe_int (pa_cons (hs := star_lst) h1 (pa_cons (hs := star_lst) h2 (pa_cons (hs := star_lst) h3 pa_nil)))))
theorem th_all {a b c : List Expr} {q1 q2 q3 : Pos} {ta tb tc : TE} (h1 : PE X (.Tuple a 0 q1) ta) (h2 : PE X (.Tuple b 0 q2) tb) (h3 : PE X (.List c q3) tc) : PE X (.List [.Tuple a 0 q1, .Tuple b 0 q2, .Constant (.int 0) 0 p1, .Constant (.str "a") 0 p2, .List c q3, .Constant (.bool true) 0 p3] p4) (tLst (tCons ta (tCons tb (tCons (tC (V.int 0)) (tCons (tC (V.str "a")) (tCons tc (tCons (tC (V.bl true)) tNil))))))) :=
  pe_lst (pa_cons (hs := star_tup) h1 (pa_cons (hs := star_tup) h2 (pa_cons pe_int (pa_cons pe_str (pa_cons (hs := star_lst) h3 (pa_cons pe_bl pa_nil))))))
end
def spLaw (K : PySem.W.Frag) : Sp := fun vs H Q _ => ∃ (a : Addr) (ns : List Int), vs = [.ref a] ∧ SqL K H a (ns.map V.int) ∧ ns.length ≤ 63 ∧ ∀ H', Q (.bl true) H'
theorem scv_parts {K : PySem.W.Frag} {H : Hp} {s : Scr} {v : V} {pb ps pe : Addr} {pl : Bool} (hV : ScV K H s v pb ps pe) (OK : OkS pl s 95) (hg : s.signs.length ≤ 5) : ∃ av, v = .ref av ∧ SqT K H av (orig s.signs s.rooms pb ps pe) ∧ ∀ y ∈ orig s.signs s.rooms pb ps pe, AnyV K H y := by
  obtain ⟨a, xb, xs, xe, rfl, h1, h2, h3, h4, h5, h6, h7⟩ := hV
  refine ⟨a, rfl, h1, fun y hy => ?_⟩
  simp only [orig, List.mem_cons, List.not_mem_nil, or_false] at hy
  rcases hy with rfl | rfl | rfl | rfl | rfl
  · exact (fl_str (by omega)).any
  · exact (fl_int _).any
  · exact any_lst h2 (by rw [← h5.length]; exact Nat.le_trans OK.lb (by decide)) fun z hz => PartV.any (paired_all h5 (fun m hm v => part_mk (OK.mb m hm).2.2.1) z hz)
  · exact any_lst h3 (by rw [← h6.length]; exact Nat.le_trans OK.ls (by decide)) fun z hz => PartV.any (paired_all h6 (fun t ht v => part_st (by obtain ⟨c, _, e⟩ := (OK.ms t ht).2.2.1; rw [e, one_len]; decide) (OK.ms t ht).2.2.2.1.1) z hz)
  · exact any_lst h4 (by rw [← h7.length]; exact Nat.le_trans OK.le (by decide)) fun z hz => PartV.any (paired_all h7 (fun m hm v => part_mk (OK.me m hm).2.2.1) z hz)

section
variable {P : Program} {w : World} {K : PySem.W.Frag} {mg : Str → Option Value} {base : Heap}
theorem sc_is_tuple_of : FnScope ["thing", "count"] ["thing", "count"] (defScope s_is_tuple_of) := ⟨rfl, rfl, rfl, by decide +kernel, rfl, by decide +kernel, by decide +kernel⟩
theorem ok_is_tuple_of (B : Bi mg)  {f : Addr} {fd : FuncData} (F : Fun K "is_tuple_of" "is_tuple_of" s_is_tuple_of f fd) : FnOk P w K mg base CX0 1 f fd ["thing", "count"] (spTupOf K) := by
  refine F.ok sc_is_tuple_of (fun vs H Q E h => ?_) (fun cdv A outer s H vs Q E hr h => ?_)
  · obtain ⟨v, d, n, rfl, _⟩ := h; rfl
  obtain ⟨v, d, n, rfl, rep, q⟩ := h
  refine ⟨_, (pss_one (ps_ret (pe_and (pe_callB call_isinstD (by rfl) B.isinstance bt_isinstance (pa_cons (pv 0) (pa_cons (pe_ty (by rfl) B.tuple bt_tuple) pa_nil))) (pe_one (pe_cmpR op_eq (pe_callB (CallR.or call_len_seq call_len_str) (by rfl) B.len bt_len (pa_cons (pv 0) pa_nil)) (pv 1) (nomark _)))))), ?_⟩
  refine ⟨_, rfl, v, d, "tuple", rfl, rep, .inl rfl, _, rfl, ?_⟩
  cases d with
  | tup ds =>
    refine iteT ?_
    unfold Rep at rep
    obtain ⟨a, xs, rfl, hq, rs⟩ := rep
    refine ⟨_, rfl, .inl ⟨a, xs, rfl, .inr hq, _, rfl, rfl, ?_⟩⟩
    have e : tupD (.tup ds) n = decide (V.int (xs.length : Int) = V.int n) := by
      show decide ((ds.length : Int) = n) = _
      rw [rs.length]
      exact decide_eq_decide.mpr ⟨fun h => by rw [h], fun h => by injection h⟩
    rw [e] at q
    exact q
  | _ => exact iteF q

theorem sc_is_number_below : FnScope ["thing", "bound"] ["thing", "bound"] (defScope s_is_number_below) := ⟨rfl, rfl, rfl, by decide +kernel, rfl, by decide +kernel, by decide +kernel⟩
theorem ok_is_number_below (B : Bi mg)  {f : Addr} {fd : FuncData} (F : Fun K "is_number_below" "is_number_below" s_is_number_below f fd) : FnOk P w K mg base CX0 1 f fd ["thing", "bound"] (spNumB K) := by
  refine F.ok sc_is_number_below (fun vs H Q E h => ?_) (fun cdv A outer s H vs Q E hr h => ?_)
  · obtain ⟨v, d, n, rfl, _⟩ := h; rfl
  obtain ⟨v, d, n, rfl, rep, q⟩ := h
  refine ⟨_, (pss_cons (ps_if (PW.pt (pw_or (pt_not (pt_val (pe_callB call_isinstD (by rfl) B.isinstance bt_isinstance (pa_cons (pv 0) (pa_cons (pe_ty (by rfl) B.int bt_int) pa_nil))))) (pw_or1 (pt_val (pe_callB call_isinstD (by rfl) B.isinstance bt_isinstance (pa_cons (pv 0) (pa_cons (pe_ty (by rfl) B.bool bt_bool) pa_nil))))))) (pss_one (ps_ret pe_bl)) pss_nil)
      (pss_one (ps_ret (pe_chain op_le op_lt pe_int (pv 0) (pv 1))))), ?_⟩
  refine ⟨_, rfl, v, d, "int", rfl, rep, .inr (.inl rfl), _, rfl, ?_⟩
  cases d with
  | int i =>
    refine iteF ?_
    refine ⟨_, rfl, v, .int i, "bool", rfl, rep, .inr (.inr (.inl rfl)), _, rfl, iteF ?_⟩
    unfold Rep at rep
    subst rep
    refine ⟨_, rfl, _, _, rfl, rfl, _, rfl, iteDd (fun c1 => ?_) (fun c1 => ?_)⟩
    · refine ⟨_, rfl, _, _, rfl, rfl, ?_⟩
      have e : numD (.int i) n = decide (i < n) := by show (decide (0 ≤ i) && decide (i < n)) = _; rw [decide_eq_true c1, Bool.true_and]
      rw [e] at q
      exact q
    · have e : numD (.int i) n = false := by show (decide (0 ≤ i) && decide (i < n)) = _; rw [decide_eq_false c1, Bool.false_and]
      rw [e] at q
      exact q
  | bl b =>
    refine iteF ?_
    refine ⟨_, rfl, v, .bl b, "bool", rfl, rep, .inr (.inr (.inl rfl)), _, rfl, iteT ?_⟩
    exact q
  | _ => exact iteT q

theorem sc_is_word : FnScope ["thing"] ["thing"] (defScope s_is_word) := ⟨rfl, rfl, rfl, by decide +kernel, rfl, by decide +kernel, by decide +kernel⟩
theorem ok_is_word (B : Bi mg)  {f : Addr} {fd : FuncData} (F : Fun K "is_word" "is_word" s_is_word f fd) : FnOk P w K mg base CX0 1 f fd ["thing"] (spIsWord K) := by
  refine F.ok sc_is_word (fun vs H Q E h => ?_) (fun cdv A outer s H vs Q E hr h => ?_)
  · obtain ⟨v, d, rfl, _⟩ := h; rfl
  obtain ⟨v, d, rfl, rep, q⟩ := h
  refine ⟨_, (pss_cons (ps_if (pt_not (pt_val (pe_callB call_isinstD (by rfl) B.isinstance bt_isinstance (pa_cons (pv 0) (pa_cons (pe_ty (by rfl) B.str bt_str) pa_nil))))) (pss_one (ps_ret pe_bl)) pss_nil)
      (pss_one (ps_ret (pe_or (pe_cmpR (op_eqD hr.units) (pv 0) pe_str (nomark _)) (pe_one (pe_and (pe_cmpR op_le_str pe_str (pe_callB (call_minS (by rfl)) (by rfl) B.min bt_min (pa_cons (pv 0) pa_nil)) (nomark _)) (pe_one (pe_cmpR op_le_str (pe_callB (call_maxS (by rfl)) (by rfl) B.max bt_max (pa_cons (pv 0) pa_nil)) pe_str (nomark _))))))))), ?_⟩
  refine ⟨_, rfl, v, d, "str", rfl, rep, .inr (.inr (.inr (.inl rfl))), _, rfl, ?_⟩
  cases d with
  | str x =>
    refine iteF ?_
    unfold Rep at rep
    subst rep
    refine ⟨_, rfl, .str x, .str "", rep_str _, rep_str _, by simp [deep], _, rfl, ?_⟩
    rw [eqD_nil]
    refine iteDd (fun c => ?_) (fun c => ?_)
    · have e : wordD (.str x) = true := by show wordS x = true; unfold wordS; rw [c]; rfl
      rw [e] at q
      exact q
    refine ⟨_, rfl, x, rfl, c, fun lo hlo hall => ⟨_, _, rfl, rfl, _, rfl, ?_⟩⟩
    have e1 : (!decide (cl (⟨#[lo]⟩ : Str) < cl ("a" : Str))) = decide (97 ≤ lo) := by
      rw [cl_one, cl_a]
      by_cases z : lo < 97
      · rw [decide_eq_true ((lt_one _ _).mpr z), decide_eq_false (by omega)]; rfl
      · rw [decide_eq_false (fun y => z ((lt_one _ _).mp y)), decide_eq_true (by omega)]; rfl
    rw [e1]
    refine iteDd (fun c1 => ?_) (fun c1 => ?_)
    · refine ⟨_, rfl, x, rfl, c, fun hi hhi hall2 => ⟨_, _, rfl, rfl, ?_⟩⟩
      have e2 : (!decide (cl ("z" : Str) < cl (⟨#[hi]⟩ : Str))) = wordD (.str x) := by
        rw [cl_one, cl_z]
        show _ = wordS x
        unfold wordS
        by_cases z : 122 < hi
        · rw [decide_eq_true ((lt_one _ _).mpr z)]
          refine (List.all_eq_false.mpr ⟨hi, hhi, ?_⟩).symm
          rw [decide_eq_false (show ¬ hi ≤ 122 by omega), Bool.and_false]; exact Bool.false_ne_true
        · rw [decide_eq_false (fun y => z ((lt_one _ _).mp y))]
          refine (List.all_eq_true.mpr fun y hy => ?_).symm
          have h1 := hall y hy
          have h2 := hall2 y hy
          rw [decide_eq_true (show 97 ≤ y by omega), decide_eq_true (show y ≤ 122 by omega)]; rfl
      show Q (.bl (!decide (cl ("z" : Str) < cl (⟨#[hi]⟩ : Str)))) H
      rw [e2]
      exact q
    · have e : wordD (.str x) = false := by
        show wordS x = false
        unfold wordS
        refine List.all_eq_false.mpr ⟨lo, hlo, ?_⟩
        rw [decide_eq_false c1]; exact Bool.false_ne_true
      rw [e] at q
      exact q
  | _ => exact iteT q

theorem sc_all_unlike : FnScope ["parts"] ["parts"] (defScope s_all_unlike) := ⟨rfl, rfl, rfl, by decide +kernel, rfl, by decide +kernel, by decide +kernel⟩
theorem ok_all_unlike (B : Bi mg)  {f : Addr} {fd : FuncData} (F : Fun K "all_unlike" "all_unlike" s_all_unlike f fd) : FnOk P w K mg base CX0 1 f fd ["parts"] (spUnl K) := by
  refine F.ok sc_all_unlike (fun vs H Q E h => ?_) (fun cdv A outer s H vs Q E hr h => ?_)
  · obtain ⟨v, rfl, _⟩ := h; rfl
  obtain ⟨v, rfl, h⟩ := h
  refine ⟨_, (pss_one (ps_ret (pe_cmpR op_eq (pe_callB call_len_set (by rfl) B.len bt_len (pa_cons (pe_callTy (CallR.or (call_set hr (by rfl)) (call_setS (by rfl))) (by rfl) B.set bt_set (pa_cons (pv 0) pa_nil)) pa_nil)) (pe_callB (CallR.or call_len_seq call_len_str) (by rfl) B.len bt_len (pa_cons (pv 0) pa_nil)) (nomark _)))), ?_⟩
  rcases h with ⟨p, ys, ks, rfl, hS, hP, hl, q⟩ | ⟨x, rfl, hl, q⟩
  · have hle := ndist_le ks.reverse
    rw [List.length_reverse] at hle
    refine ⟨_, rfl, .inl (.inl ⟨_, ys, ks, rfl, hS, hP, hl, fun d hd => ?_⟩)⟩
    refine ⟨_, _, rfl, upd_same, by omega, _, rfl, .inl ⟨p, ys, rfl, .inl ((same_new hd _).seq hS), rfl, ?_⟩⟩
    have e : decide (V.int ((ndist ks.reverse : Nat) : Int) = V.int (ys.length : Int)) = decide ks.Nodup := by rw [nd_int, ← hP.length, nodup_dec]
    show Q (.bl (decide (V.int ((ndist ks.reverse : Nat) : Int) = V.int (ys.length : Int)))) _
    rw [e]
    exact q _ (same_new hd _)
  · have hle := ndist_le (cl x).reverse
    rw [List.length_reverse, cl_length] at hle
    refine ⟨_, rfl, .inr ⟨x, rfl, hl, fun d hd => ?_⟩⟩
    refine ⟨_, _, rfl, upd_same, by omega, _, rfl, .inr ⟨x, rfl, szl (by omega), rfl, ?_⟩⟩
    have e : decide (V.int ((ndist (cl x).reverse : Nat) : Int) = V.int (x.length : Int)) = decide (cl x).Nodup := by rw [nd_int, ← cl_length, nodup_dec]
    show Q (.bl (decide (V.int ((ndist (cl x).reverse : Nat) : Int) = V.int (x.length : Int)))) _
    rw [e]
    exact q _ (same_new hd _)

theorem sc_are_signs : FnScope ["thing"] ["thing"] (defScope s_are_signs) := ⟨rfl, rfl, rfl, by decide +kernel, rfl, by decide +kernel, by decide +kernel⟩
theorem ok_are_signs (B : Bi mg) (C_is_word : Cal P w K mg base "is_word" ["thing"] 1 (spIsWord K)) (C_all_unlike : Cal P w K mg base "all_unlike" ["parts"] 1 (spUnl K)) {f : Addr} {fd : FuncData} (F : Fun K "are_signs" "are_signs" s_are_signs f fd) : FnOk P w K mg base CX0 2 f fd ["thing"] (spSigns K) := by
  refine F.ok sc_are_signs (fun vs H Q E h => ?_) (fun cdv A outer s H vs Q E hr h => ?_)
  · obtain ⟨v, d, rfl, _⟩ := h; rfl
  obtain ⟨v, d, rfl, rep, sm, q⟩ := h
  refine ⟨_, (pss_one (ps_ret (pe_and (pe_fn C_is_word hr (by decide : 1 ≤ 1) (by rfl) (pa_cons (pv 0) pa_nil)) (pe_and (pe_cmpR (op_neD hr.units) (pv 0) pe_str (nomark _)) (pe_one (pe_fn C_all_unlike hr (by decide : 1 ≤ 1) (by rfl) (pa_cons (pv 0) pa_nil))))))), ?_⟩
  refine ⟨_, rfl, v, d, rfl, rep, _, rfl, ?_⟩
  cases d with
  | str x =>
    unfold Rep at rep
    subst rep
    have hx : x.length ≤ 4000 := by unfold small at sm; exact sm
    refine iteB (fun c1 => ?_) (fun c1 => ?_)
    · refine ⟨_, rfl, .str x, .str "", rep_str _, rep_str _, by simp [deep], _, rfl, ?_⟩
      rw [eqD_nil]
      refine iteNd (fun c2 => ?_) (fun c2 => ?_)
      · refine ⟨_, rfl, _, rfl, .inr ⟨x, rfl, hx, fun H' g => ?_⟩⟩
        have e : signsD (.str x) = decide (cl x).Nodup := by
          show (wordS x && (!decide (cl x = []) && decide (cl x).Nodup)) = _
          rw [show wordS x = true from c1, decide_eq_false c2]; rfl
        rw [← e]; exact q H' g
      · have e : signsD (.str x) = false := by
          show (wordS x && (!decide (cl x = []) && decide (cl x).Nodup)) = _
          rw [decide_eq_true c2]; simp
        rw [← e]; exact q H (Same.refl H)
    · have e : signsD (.str x) = false := by
        show (wordS x && (!decide (cl x = []) && decide (cl x).Nodup)) = _
        rw [show wordS x = false from c1]; rfl
      rw [← e]; exact q H (Same.refl H)
  | _ => exact iteF (q H (Same.refl H))

theorem sc_is_mark : FnScope ["thing", "rooms"] ["thing", "rooms"] (defScope s_is_mark) := ⟨rfl, rfl, rfl, by decide +kernel, rfl, by decide +kernel, by decide +kernel⟩
theorem ok_is_mark (B : Bi mg) (C_is_tuple_of : Cal P w K mg base "is_tuple_of" ["thing", "count"] 1 (spTupOf K)) (C_is_number_below : Cal P w K mg base "is_number_below" ["thing", "bound"] 1 (spNumB K)) (C_is_word : Cal P w K mg base "is_word" ["thing"] 1 (spIsWord K)) {f : Addr} {fd : FuncData} (F : Fun K "is_mark" "is_mark" s_is_mark f fd) : FnOk P w K mg base CX0 2 f fd ["thing", "rooms"] (spMark K) := by
  refine F.ok sc_is_mark (fun vs H Q E h => ?_) (fun cdv A outer s H vs Q E hr h => ?_)
  · obtain ⟨v, d, r, rfl, _⟩ := h; rfl
  obtain ⟨v, d, r, rfl, rep, q⟩ := h
  refine ⟨_, (pss_one (ps_ret (pe_and (pe_fn C_is_tuple_of hr (by decide : 1 ≤ 1) (by rfl) (pa_cons (pv 0) (pa_cons pe_int pa_nil))) (pe_and (pe_fn C_is_number_below hr (by decide : 1 ≤ 1) (by rfl) (pa_cons (pe_ix ix_tup (pv 0) pe_int (by intro _ _; rfl)) (pa_cons (pv 1) pa_nil))) (pe_one (pe_fn C_is_word hr (by decide : 1 ≤ 1) (by rfl) (pa_cons (pe_ix ix_tup (pv 0) pe_int (by intro _ _; rfl)) pa_nil))))))), ?_⟩
  refine ⟨_, rfl, v, d, 2, rfl, rep, _, rfl, ?_⟩
  refine iteB (fun c1 => ?_) (fun c1 => ?_)
  rotate_left
  · rw [mark_not c1] at q; exact q
  obtain ⟨ds, rfl, hl⟩ := tup_len (n := 2) c1
  match ds, hl with
  | [d0, d1], _ =>
    obtain ⟨a, xs, rfl, hq, rs⟩ := Rep.tup2 rep
    obtain ⟨v0, r0, rfl, p0, rs⟩ := rs.inv
    obtain ⟨v1, r1, rfl, p1, rs⟩ := rs.inv
    cases rs.inv0
    refine ⟨_, rfl, _, _, _, _, rfl, rfl, hq, rfl, _, rfl, v0, d0, r, rfl, p0, _, rfl, ?_⟩
    have e : markD r (.tup [d0, d1]) = (numD d0 r && wordD d1) := rfl
    rw [e] at q
    refine iteB (fun c2 => ?_) (fun c2 => ?_)
    · rw [c2, Bool.true_and] at q
      exact ⟨_, rfl, _, _, _, _, rfl, rfl, hq, rfl, v1, d1, rfl, p1, q⟩
    · rw [c2] at q
      exact q

theorem sc_is_step : FnScope ["thing", "signs", "rooms"] ["thing", "signs", "rooms"] (defScope s_is_step) := ⟨rfl, rfl, rfl, by decide +kernel, rfl, by decide +kernel, by decide +kernel⟩
theorem ok_is_step (B : Bi mg) (C_is_word : Cal P w K mg base "is_word" ["thing"] 1 (spIsWord K)) (C_is_tuple_of : Cal P w K mg base "is_tuple_of" ["thing", "count"] 1 (spTupOf K)) (C_is_number_below : Cal P w K mg base "is_number_below" ["thing", "bound"] 1 (spNumB K)) {f : Addr} {fd : FuncData} (F : Fun K "is_step" "is_step" s_is_step f fd) : FnOk P w K mg base CX0 2 f fd ["thing", "signs", "rooms"] (spStp K) := by
  refine F.ok sc_is_step (fun vs H Q E h => ?_) (fun cdv A outer s H vs Q E hr h => ?_)
  · obtain ⟨v, d, g, r, rfl, _⟩ := h; rfl
  obtain ⟨v, d, g, r, rfl, rep, sm, q⟩ := h
  refine ⟨_, (pss_cons (ps_if (pt_not (pt_val (pe_fn C_is_tuple_of hr (by decide : 1 ≤ 1) (by rfl) (pa_cons (pv 0) (pa_cons pe_int pa_nil))))) (pss_one (ps_ret pe_bl)) pss_nil)
      (pss_cons (ps_if (PW.pt (pw_or (pt_not (pt_val (pe_fn C_is_number_below hr (by decide : 1 ≤ 1) (by rfl) (pa_cons (pe_ix ix_tup (pv 0) pe_int (by intro _ _; rfl)) (pa_cons (pv 2) pa_nil))))) (pw_or1 (pt_not (pt_val (pe_fn C_is_number_below hr (by decide : 1 ≤ 1) (by rfl) (pa_cons (pe_ix ix_tup (pv 0) pe_int (by intro _ _; rfl)) (pa_cons (pv 2) pa_nil)))))))) (pss_one (ps_ret pe_bl)) pss_nil)
      (pss_cons (ps_if (PW.pt (pw_or (pt_not (pt_val (pe_callB call_isinstD (by rfl) B.isinstance bt_isinstance (pa_cons (pe_ix ix_tup (pv 0) pe_int (by intro _ _; rfl)) (pa_cons (pe_ty (by rfl) B.str bt_str) pa_nil))))) (pw_or (pt_cmpR op_ne (pe_callB (CallR.or call_len_seq call_len_str) (by rfl) B.len bt_len (pa_cons (pe_ix ix_tup (pv 0) pe_int (by intro _ _; rfl)) pa_nil)) pe_int (nomark _)) (pw_or1 (pt_cmpR op_notIn_str (pe_ix ix_tup (pv 0) pe_int (by intro _ _; rfl)) (pv 1) rfl))))) (pss_one (ps_ret pe_bl)) pss_nil)
      (pss_one (ps_ret (pe_fn C_is_word hr (by decide : 1 ≤ 1) (by rfl) (pa_cons (pe_ix ix_tup (pv 0) pe_int (by intro _ _; rfl)) pa_nil))))))), ?_⟩
  refine ⟨_, rfl, v, d, 4, rfl, rep, _, rfl, ?_⟩
  cases hc : tupD d 4 with
  | false => rw [step_not hc] at q; exact iteT q
  | true =>
  refine iteF ?_
  obtain ⟨ds, rfl, hl⟩ := tup_len (n := 4) hc
  match ds, hl with
  | [d0, d1, d2, d3], _ =>
    obtain ⟨a, xs, rfl, hq, rs⟩ := Rep.tup2 rep
    obtain ⟨v0, r0, rfl, p0, rs⟩ := rs.inv
    obtain ⟨v1, r1, rfl, p1, rs⟩ := rs.inv
    obtain ⟨v2, r2, rfl, p2, rs⟩ := rs.inv
    obtain ⟨v3, r3, rfl, p3, rs⟩ := rs.inv
    cases rs.inv0
    have no : (numD d0 r = false ∨ numD d3 r = false ∨ ∀ y, d1 = .str y → y.length = 1 → inS y g = true → wordD d2 = false) → stepD g r (.tup [d0, d1, d2, d3]) = false := fun z => by
      cases d1 with
      | str y =>
        show (numD d0 r && (numD d3 r && (decide (y.length = 1) && (inS y g && wordD d2)))) = false
        rcases z with z | z | z
        · rw [z]; rfl
        · rw [z, Bool.false_and, Bool.and_false]
        · by_cases c1 : y.length = 1
          · cases c2 : inS y g with
            | false => simp
            | true => rw [z y rfl c1 c2]; simp
          · simp [c1]
      | _ => rfl
    refine ⟨_, rfl, _, _, _, _, rfl, rfl, hq, rfl, _, rfl, v0, d0, r, rfl, p0, _, rfl, ?_⟩
    cases h0 : numD d0 r with
    | false => rw [no (.inl h0)] at q; exact iteT q
    | true =>
    refine iteF ?_
    refine ⟨_, rfl, _, _, _, _, rfl, rfl, hq, rfl, _, rfl, v3, d3, r, rfl, p3, _, rfl, ?_⟩
    cases h3 : numD d3 r with
    | false => rw [no (.inr (.inl h3))] at q; exact iteT q
    | true =>
    refine iteF ?_
    refine ⟨_, rfl, _, _, _, _, rfl, rfl, hq, rfl, v1, d1, "str", rfl, p1, .inr (.inr (.inr (.inl rfl))), _, rfl, ?_⟩
    cases d1 with
    | str y =>
      refine iteF ?_
      have hy : y.length ≤ 4000 := by
        unfold small at sm
        have := smalls_mem sm (show D.str y ∈ [d0, D.str y, d2, d3] by simp)
        unfold small at this; exact this
      unfold Rep at p1
      subst p1
      refine ⟨_, rfl, _, _, _, _, rfl, rfl, hq, rfl, .inr ⟨y, rfl, szl (by omega), rfl, _, rfl, iteNd (fun c => ?_) (fun c => ?_)⟩⟩
      · rw [no (.inr (.inr fun y' e c1 _ => by injection e with e; subst e; exact absurd (by rw [c1]; rfl) c))] at q
        exact q
      have hy1 : y.length = 1 := by injection c with c; omega
      refine ⟨_, rfl, _, _, _, _, rfl, rfl, hq, rfl, _, rfl, y, g, rfl, rfl, _, rfl, ?_⟩
      cases hi : inS y g with
      | false =>
        rw [no (.inr (.inr fun y' e _ c2 => by injection e with e; subst e; rw [hi] at c2; cases c2))] at q
        have hi' : (!(!(Builtin.Str.occurrences g y 0 g.length 1).isEmpty)) = true := by
          have : (!(Builtin.Str.occurrences g y 0 g.length 1).isEmpty) = false := hi
          rw [this]; rfl
        rw [hi']
        exact iteT q
      | true =>
        have hi' : (!(!(Builtin.Str.occurrences g y 0 g.length 1).isEmpty)) = false := by
          have : (!(Builtin.Str.occurrences g y 0 g.length 1).isEmpty) = true := hi
          rw [this]; rfl
        rw [hi']
        refine iteF ?_
        have e : stepD g r (.tup [d0, .str y, d2, d3]) = wordD d2 := by
          show (numD d0 r && (numD d3 r && (decide (y.length = 1) && (inS y g && wordD d2)))) = _
          rw [h0, h3, decide_eq_true hy1, hi]; rfl
        rw [e] at q
        exact ⟨_, rfl, _, _, _, _, rfl, rfl, hq, rfl, v2, d2, rfl, p2, q⟩
    | _ => exact iteT (by rw [no (.inr (.inr fun y' e => nomatch e))] at q; exact q)

theorem sc_are_marks : FnScope ["thing", "rooms"] ["thing", "rooms"] (defScope s_are_marks) := ⟨rfl, rfl, rfl, by decide +kernel, rfl, by decide +kernel, by decide +kernel⟩
theorem ok_are_marks (B : Bi mg) (C_all_unlike : Cal P w K mg base "all_unlike" ["parts"] 1 (spUnl K)) (C_is_mark : Cal P w K mg base "is_mark" ["thing", "rooms"] 2 (spMark K)) {f : Addr} {fd : FuncData} (F : Fun K "are_marks" "are_marks" s_are_marks f fd) : FnOk P w K mg base CX0 3 f fd ["thing", "rooms"] (spMarks K) := by
  refine F.ok sc_are_marks (fun vs H Q E h => ?_) (fun cdv A outer s H vs Q E hr h => ?_)
  · obtain ⟨v, d, r, rfl, _⟩ := h; rfl
  obtain ⟨v, d, r, rfl, rep, sm, q⟩ := h
  refine ⟨_, (pss_cons (ps_if (pt_not (pt_val (pe_callB call_isinstD (by rfl) B.isinstance bt_isinstance (pa_cons (pv 0) (pa_cons (pe_ty (by rfl) B.list bt_list) pa_nil))))) (pss_one (ps_ret pe_bl)) pss_nil)
      (pss_one (ps_ret (pe_and (pe_callB (call_allB (by rfl)) (by rfl) B.all bt_all (pa_cons (pe_comp rfl (blk_mk (N' := ["part", "rooms"]) (js := [none, some 1]) rfl (by decide +kernel) rfl (by decide +kernel) rfl rfl) (pi_list (pv 0)) (fun _ _ _ _ _ => (pg_name (i := 0) (show List.Nodup (["part", "rooms"] : List Str) by decide +kernel) rfl (Or.inl rfl))) (fun _ _ _ _ _ => pf_nil) (fun _ _ _ _ _ => (pe_fn C_is_mark hr (by decide : 2 ≤ 2) (by rfl) (pa_cons (pv 0) (pa_cons (pv 1) pa_nil))))) pa_nil)) (pe_one (pe_fn C_all_unlike hr (by decide : 1 ≤ 2) (by rfl) (pa_cons (pv 0) pa_nil))))))), ?_⟩
  refine ⟨_, rfl, v, d, "list", rfl, rep, .inr (.inr (.inr (.inr rfl))), _, rfl, ?_⟩
  cases d with
  | lst ds =>
    refine iteF ?_
    obtain ⟨a, xs, rfl, hq, rs⟩ := Rep.lst2 rep
    have hsm : ds.length ≤ 900 ∧ smalls ds := by unfold small at sm; exact sm
    have hlx : ds.length = xs.length := rs.length
    refine ⟨_, rfl, a, rfl, ⟨xs, hq⟩, ?_⟩
    refine comp_list (xs := xs) (fun i ys τ H' => H = H' ∧ (∃ x, τ = [x, some (.int r)]) ∧ i ≤ xs.length ∧ ys = ((ds.map (markD r)).take i).map V.bl) ⟨rfl, ⟨_, rfl⟩, Nat.zero_le _, rfl⟩ (fun i ys τ H' z => z.1 ▸ hq) ?_ ?_
    · rintro i x ys τ _ hx ⟨rfl, ⟨y, rfl⟩, hi, rfl⟩
      obtain ⟨d, hd, rd⟩ := Reps.at rs hx
      have hil : i < xs.length := (List.getElem?_eq_some_iff.mp hx).1
      have hdi : (ds.map (markD r))[i]? = some (markD r d) := by rw [List.getElem?_map, hd]; rfl
      refine ⟨_, rfl, _, rfl, x, d, r, rfl, rd, szl' (by rw [List.length_map, List.length_take]; omega), rfl, ⟨_, rfl⟩, hil, ?_⟩
      rw [take_get hdi, List.map_append]; rfl
    rintro ys τ _ ⟨rfl, _, _, rfl⟩ p hp
    have e0 : (ds.map (markD r)).take xs.length = ds.map (markD r) := by rw [← hlx, ← List.length_map (markD r), List.take_length]
    rw [e0]
    have gp := same_new hp (.lst ((ds.map (markD r)).map V.bl))
    refine ⟨p, ds.map (markD r), rfl, SqL.of upd_same, _, rfl, iteB (fun c => ?_) (fun c => ?_)⟩
    · refine ⟨_, rfl, _, rfl, .inl ⟨a, xs, ds.map keyD, rfl, gp.seq hq, keys_of (f := markD r) (fun _ _ => markKey) (Reps.mono gp _ _ rs) (all_id c), by rw [List.length_map]; omega, fun H' g7 => ?_⟩⟩
      have e : marksD r (.lst ds) = decide (ds.map keyD).Nodup := by
        show ((ds.map (markD r)).all id && decide (ds.map keyD).Nodup) = _
        rw [c, Bool.true_and]
      rw [← e]; exact q _ (gp.trans g7)
    · have e : marksD r (.lst ds) = false := by
        show ((ds.map (markD r)).all id && decide (ds.map keyD).Nodup) = _
        rw [c, Bool.false_and]
      rw [← e]; exact q _ gp
  | _ => exact iteT (q H (Same.refl H))

theorem sc_are_steps : FnScope ["thing", "signs", "rooms"] ["thing", "signs", "rooms"] (defScope s_are_steps) := ⟨rfl, rfl, rfl, by decide +kernel, rfl, by decide +kernel, by decide +kernel⟩
theorem ok_are_steps (B : Bi mg) (C_all_unlike : Cal P w K mg base "all_unlike" ["parts"] 1 (spUnl K)) (C_is_step : Cal P w K mg base "is_step" ["thing", "signs", "rooms"] 2 (spStp K)) {f : Addr} {fd : FuncData} (F : Fun K "are_steps" "are_steps" s_are_steps f fd) : FnOk P w K mg base CX0 3 f fd ["thing", "signs", "rooms"] (spStps K) := by
  refine F.ok sc_are_steps (fun vs H Q E h => ?_) (fun cdv A outer s H vs Q E hr h => ?_)
  · obtain ⟨v, d, g, r, rfl, _⟩ := h; rfl
  obtain ⟨v, d, g, r, rfl, rep, sm, q⟩ := h
  refine ⟨_, (pss_cons (ps_if (pt_not (pt_val (pe_callB call_isinstD (by rfl) B.isinstance bt_isinstance (pa_cons (pv 0) (pa_cons (pe_ty (by rfl) B.list bt_list) pa_nil))))) (pss_one (ps_ret pe_bl)) pss_nil)
      (pss_one (ps_ret (pe_and (pe_callB (call_allB (by rfl)) (by rfl) B.all bt_all (pa_cons (pe_comp rfl (blk_mk (N' := ["part", "signs", "rooms"]) (js := [none, some 1, some 2]) rfl (by decide +kernel) rfl (by decide +kernel) rfl rfl) (pi_list (pv 0)) (fun _ _ _ _ _ => (pg_name (i := 0) (show List.Nodup (["part", "signs", "rooms"] : List Str) by decide +kernel) rfl (Or.inl rfl))) (fun _ _ _ _ _ => pf_nil) (fun _ _ _ _ _ => (pe_fn C_is_step hr (by decide : 2 ≤ 2) (by rfl) (pa_cons (pv 0) (pa_cons (pv 1) (pa_cons (pv 2) pa_nil)))))) pa_nil)) (pe_one (pe_fn C_all_unlike hr (by decide : 1 ≤ 2) (by rfl) (pa_cons (pv 0) pa_nil))))))), ?_⟩
  refine ⟨_, rfl, v, d, "list", rfl, rep, .inr (.inr (.inr (.inr rfl))), _, rfl, ?_⟩
  cases d with
  | lst ds =>
    refine iteF ?_
    obtain ⟨a, xs, rfl, hq, rs⟩ := Rep.lst2 rep
    have hsm : ds.length ≤ 900 ∧ smalls ds := by unfold small at sm; exact sm
    have hlx : ds.length = xs.length := rs.length
    refine ⟨_, rfl, a, rfl, ⟨xs, hq⟩, ?_⟩
    refine comp_list (xs := xs) (fun i ys τ H' => H = H' ∧ (∃ x, τ = [x, some (.str g), some (.int r)]) ∧ i ≤ xs.length ∧ ys = ((ds.map (stepD g r)).take i).map V.bl) ⟨rfl, ⟨_, rfl⟩, Nat.zero_le _, rfl⟩ (fun i ys τ H' z => z.1 ▸ hq) ?_ ?_
    · rintro i x ys τ _ hx ⟨rfl, ⟨y, rfl⟩, hi, rfl⟩
      obtain ⟨d, hd, rd⟩ := Reps.at rs hx
      have hil : i < xs.length := (List.getElem?_eq_some_iff.mp hx).1
      have hdi : (ds.map (stepD g r))[i]? = some (stepD g r d) := by rw [List.getElem?_map, hd]; rfl
      refine ⟨_, rfl, _, rfl, _, rfl, x, d, g, r, rfl, rd, smalls_mem hsm.2 (List.mem_of_getElem? hd), szl' (by rw [List.length_map, List.length_take]; omega), rfl, ⟨_, rfl⟩, hil, ?_⟩
      rw [take_get hdi, List.map_append]; rfl
    rintro ys τ _ ⟨rfl, _, _, rfl⟩ p hp
    have e0 : (ds.map (stepD g r)).take xs.length = ds.map (stepD g r) := by rw [← hlx, ← List.length_map (stepD g r), List.take_length]
    rw [e0]
    have gp := same_new hp (.lst ((ds.map (stepD g r)).map V.bl))
    refine ⟨p, ds.map (stepD g r), rfl, SqL.of upd_same, _, rfl, iteB (fun c => ?_) (fun c => ?_)⟩
    · refine ⟨_, rfl, _, rfl, .inl ⟨a, xs, ds.map keyD, rfl, gp.seq hq, keys_of (f := stepD g r) (fun _ _ => stepKey) (Reps.mono gp _ _ rs) (all_id c), by rw [List.length_map]; omega, fun H' g7 => ?_⟩⟩
      have e : stepsD g r (.lst ds) = decide (ds.map keyD).Nodup := by
        show ((ds.map (stepD g r)).all id && decide (ds.map keyD).Nodup) = _
        rw [c, Bool.true_and]
      rw [← e]; exact q _ (gp.trans g7)
    · have e : stepsD g r (.lst ds) = false := by
        show ((ds.map (stepD g r)).all id && decide (ds.map keyD).Nodup) = _
        rw [c, Bool.false_and]
      rw [← e]; exact q _ gp
  | _ => exact iteT (q H (Same.refl H))

theorem sc_is_scribe : FnScope ["thing", "signs", "rooms"] ["thing"] (defScope s_is_scribe) := ⟨rfl, rfl, rfl, by decide +kernel, rfl, by decide +kernel, by decide +kernel⟩
theorem ok_is_scribe (B : Bi mg) (C_are_steps : Cal P w K mg base "are_steps" ["thing", "signs", "rooms"] 3 (spStps K)) (C_is_tuple_of : Cal P w K mg base "is_tuple_of" ["thing", "count"] 1 (spTupOf K)) (C_are_signs : Cal P w K mg base "are_signs" ["thing"] 2 (spSigns K)) (C_is_number_below : Cal P w K mg base "is_number_below" ["thing", "bound"] 1 (spNumB K)) (C_are_marks : Cal P w K mg base "are_marks" ["thing", "rooms"] 3 (spMarks K)) {f : Addr} {fd : FuncData} (F : Fun K "is_scribe" "is_scribe" s_is_scribe f fd) : FnOk P w K mg base CX0 4 f fd ["thing"] (spScr K) := by
  refine F.ok sc_is_scribe (fun vs H Q E h => ?_) (fun cdv A outer s H vs Q E hr h => ?_)
  · obtain ⟨v, d, rfl, _⟩ := h; rfl
  obtain ⟨v, d, rfl, rep, sm, q⟩ := h
  refine ⟨_, (pss_cons (ps_if (pt_not (pt_val (pe_fn C_is_tuple_of hr (by decide : 1 ≤ 3) (by rfl) (pa_cons (pv 0) (pa_cons pe_int pa_nil))))) (pss_one (ps_ret pe_bl)) pss_nil)
      (pss_cons (ps_set (i := 1) sc_is_scribe.nd rfl (Or.inl rfl) (pe_ix ix_tup (pv 0) (pe_globI (by rfl) B.SIGNS) (by intro _ _; rfl)))
      (pss_cons (ps_set (i := 2) sc_is_scribe.nd rfl (Or.inl rfl) (pe_ix ix_tup (pv 0) (pe_globI (by rfl) B.ROOMS) (by intro _ _; rfl)))
      (pss_cons (ps_if (PW.pt (pw_or (pt_not (pt_val (pe_fn C_are_signs hr (by decide : 2 ≤ 3) (by rfl) (pa_cons (pv 1) pa_nil)))) (pw_or1 (pt_not (pt_val (pe_fn C_is_number_below hr (by decide : 1 ≤ 3) (by rfl) (pa_cons (pv 2) (pa_cons (pe_op op_add (pe_globI (by rfl) B.MOST_ROOMS) pe_int) pa_nil)))))))) (pss_one (ps_ret pe_bl)) pss_nil)
      (pss_cons (ps_if (PW.pt (pw_or (pt_not (pt_val (pe_fn C_are_marks hr (by decide : 3 ≤ 3) (by rfl) (pa_cons (pe_ix ix_tup (pv 0) (pe_globI (by rfl) B.BEGINS) (by intro _ _; rfl)) (pa_cons (pv 2) pa_nil))))) (pw_or1 (pt_not (pt_val (pe_fn C_are_marks hr (by decide : 3 ≤ 3) (by rfl) (pa_cons (pe_ix ix_tup (pv 0) (pe_globI (by rfl) B.ENDS) (by intro _ _; rfl)) (pa_cons (pv 2) pa_nil)))))))) (pss_one (ps_ret pe_bl)) pss_nil)
      (pss_one (ps_ret (pe_fn C_are_steps hr (by decide : 3 ≤ 3) (by rfl) (pa_cons (pe_ix ix_tup (pv 0) (pe_globI (by rfl) B.STEPS) (by intro _ _; rfl)) (pa_cons (pv 1) (pa_cons (pv 2) pa_nil))))))))))), ?_⟩
  refine ⟨_, rfl, v, d, 5, rfl, rep, _, rfl, ?_⟩
  cases hc : tupD d 5 with
  | false => rw [scr_not hc] at q; exact iteT (q H (Same.refl H))
  | true =>
  refine iteF ?_
  obtain ⟨ds, rfl, hl⟩ := tup_len (n := 5) hc
  match ds, hl with
  | [d0, d1, d2, d3, d4], _ =>
    obtain ⟨a, xs, rfl, hq, rs⟩ := Rep.tup2 rep
    obtain ⟨v0, r0, rfl, p0, rs⟩ := rs.inv
    obtain ⟨v1, r1, rfl, p1, rs⟩ := rs.inv
    obtain ⟨v2, r2, rfl, p2, rs⟩ := rs.inv
    obtain ⟨v3, r3, rfl, p3, rs⟩ := rs.inv
    obtain ⟨v4, r4, rfl, p4, rs⟩ := rs.inv
    cases rs.inv0
    have sm' : smalls [d0, d1, d2, d3, d4] := by unfold small at sm; exact sm
    have s0 := smalls_mem sm' (show d0 ∈ _ by simp)
    have s2 := smalls_mem sm' (show d2 ∈ [d0, d1, d2, d3, d4] by simp)
    have s3 := smalls_mem sm' (show d3 ∈ [d0, d1, d2, d3, d4] by simp)
    have s4 := smalls_mem sm' (show d4 ∈ [d0, d1, d2, d3, d4] by simp)
    refine ⟨_, rfl, _, _, _, _, rfl, rfl, hq, rfl, ?_⟩
    refine ⟨_, rfl, _, _, _, _, rfl, rfl, hq, rfl, ?_⟩
    refine ⟨_, rfl, v0, d0, rfl, p0, s0, fun H1 g1 => ⟨_, rfl, ?_⟩⟩
    cases h0 : signsD d0 with
    | false =>
      have e : scrD (.tup [d0, d1, d2, d3, d4]) = false := by
        cases d0 with
        | str y =>
          cases d1 with
          | int i =>
            show (signsD (.str y) && _) = false
            rw [h0]; rfl
          | _ => rfl
        | _ => rfl
      rw [e] at q; exact iteT (q H1 g1)
    | true =>
    refine iteF ?_
    refine ⟨_, rfl, _, _, rfl, rfl, v1, d1, _, rfl, Rep.mono g1 _ _ p1, _, rfl, ?_⟩
    obtain ⟨gs, rfl⟩ : ∃ y, d0 = .str y := by
      cases d0 with
      | str y => exact ⟨y, rfl⟩
      | _ => cases h0
    cases h1 : numD d1 (200 + 1) with
    | false =>
      have e : scrD (.tup [.str gs, d1, d2, d3, d4]) = false := by
        cases d1 with
        | int i =>
          show (signsD (.str gs) && (numD (.int i) 201 && _)) = false
          rw [show numD (.int i) 201 = false from h1, Bool.false_and, Bool.and_false]
        | _ => rfl
      rw [e] at q; exact iteT (q H1 g1)
    | true =>
    refine iteF ?_
    obtain ⟨ro, rfl⟩ : ∃ i, d1 = .int i := by
      cases d1 with
      | int i => exact ⟨i, rfl⟩
      | _ => cases h1
    have e : scrD (.tup [.str gs, .int ro, d2, d3, d4]) = (marksD ro d2 && (marksD ro d4 && stepsD gs ro d3)) := by
      show (signsD (.str gs) && (numD (.int ro) 201 && _)) = _
      rw [h0, show numD (.int ro) 201 = true from h1]; rfl
    rw [e] at q
    have e0 : v0 = .str gs := by unfold Rep at p0; exact p0
    have e1 : v1 = .int ro := by unfold Rep at p1; exact p1
    subst e0; subst e1
    refine ⟨_, rfl, _, _, _, _, rfl, rfl, Same.seqT g1 hq, rfl, _, rfl, v2, d2, ro, rfl, Rep.mono g1 _ _ p2, s2, fun H2 g2 => ⟨_, rfl, ?_⟩⟩
    have g12 := g1.trans g2
    cases h2 : marksD ro d2 with
    | false => rw [h2] at q; exact iteT (q H2 g12)
    | true =>
    refine iteF ?_
    refine ⟨_, rfl, _, _, _, _, rfl, rfl, Same.seqT g12 hq, rfl, _, rfl, v4, d4, ro, rfl, Rep.mono g12 _ _ p4, s4, fun H3 g3 => ⟨_, rfl, ?_⟩⟩
    have g13 := g12.trans g3
    cases h4 : marksD ro d4 with
    | false => rw [h2, h4] at q; exact iteT (q H3 g13)
    | true =>
    refine iteF ?_
    rw [h2, h4] at q
    exact ⟨_, rfl, _, _, _, _, rfl, rfl, Same.seqT g13 hq, rfl, _, rfl, _, rfl, v3, d3, gs, ro, rfl, Rep.mono g13 _ _ p3, s3, fun H4 g4 => q H4 (g13.trans g4)⟩

theorem sc_law_cell_at : FnScope ["_law_script", "_law_k"] ["_law_script", "_law_k"] (defScope s_law_cell_at) := ⟨rfl, rfl, rfl, by decide +kernel, rfl, by decide +kernel, by decide +kernel⟩
theorem ok_law_cell_at (B : Bi mg)  {f : Addr} {fd : FuncData} (F : Fun K "_law_cell_at" "_law_cell_at" s_law_cell_at f fd) : FnOk P w K mg base CX0 1 f fd ["_law_script", "_law_k"] (spCell K) := by
  refine F.ok sc_law_cell_at (fun vs H Q E h => ?_) (fun cdv A outer s H vs Q E hr h => ?_)
  · obtain ⟨a, ns, k, rfl, _⟩ := h; rfl
  obtain ⟨a, ns, k, rfl, hS, hk, q⟩ := h
  refine ⟨_, (pss_cons (ps_if (pt_cmpR op_lt (pv 1) (pe_callB call_len_seq (by rfl) B.len bt_len (pa_cons (pv 0) pa_nil)) (nomark _)) (pss_one (ps_ret (pe_ix ix_list (pv 0) (pv 1) (by intro _ _; rfl)))) pss_nil)
      (pss_one (ps_ret pe_int))), ?_⟩
  refine ⟨_, rfl, _, rfl, a, _, rfl, .inl hS, _, _, rfl, rfl, _, rfl, ?_⟩
  rw [List.length_map]
  refine iteDd (fun c => ?_) (fun c => ?_)
  · obtain ⟨v, h1, h2⟩ := at_some (xs := ns) hk c
    refine ⟨_, rfl, _, rfl, a, _, _, .int v, rfl, rfl, hS, ?_, ?_⟩
    · obtain ⟨j, rfl⟩ := Int.eq_ofNat_of_zero_le hk
      exact atI_nat (by rw [List.getElem?_map]; rw [Int.toNat_natCast] at h2; rw [h2]; rfl)
    · have e : cellAt ns k = v := by unfold cellAt; rw [if_pos c, h2]; rfl
      rw [← e]; exact q
  · have e : cellAt ns k = 0 := by unfold cellAt; rw [if_neg c]
    rw [e] at q
    exact q

theorem sc_law_digits_at : FnScope ["_law_script", "_law_k", "_law_cell", "_law_number_here"] ["_law_script", "_law_k"] (defScope s_law_digits_at) := ⟨rfl, rfl, rfl, by decide +kernel, rfl, by decide +kernel, by decide +kernel⟩
theorem ok_law_digits_at (B : Bi mg) (C_law_cell_at : Cal P w K mg base "_law_cell_at" ["_law_script", "_law_k"] 1 (spCell K)) {f : Addr} {fd : FuncData} (F : Fun K "_law_digits_at" "_law_digits_at" s_law_digits_at f fd) : FnOk P w K mg base CX0 2 f fd ["_law_script", "_law_k"] (spDigitsX K) := by
  refine F.ok sc_law_digits_at (fun vs H Q E h => ?_) (fun cdv A outer s H vs Q E hr h => ?_)
  · obtain ⟨a, ns, k, rfl, _⟩ := h; rfl
  obtain ⟨a, ns, k, rfl, hS, hk, q⟩ := h
  refine ⟨_, (pss_cons (ps_set (i := 2) sc_law_digits_at.nd rfl (Or.inl rfl) (pe_fn C_law_cell_at hr (by decide : 1 ≤ 1) (by rfl) (pa_cons (pv 0) (pa_cons (pv 1) pa_nil))))
      (pss_cons (ps_if (pt_cmpR op_eq (pe_op op_mod (pe_op op_fdiv (pe_fn C_law_cell_at hr (by decide : 1 ≤ 1) (by rfl) (pa_cons (pv 0) (pa_cons pe_int pa_nil))) pe_int) pe_int) pe_int (nomark _)) (pss_one (ps_ret (pv 2))) pss_nil)
      (pss_cons (ps_set (i := 3) sc_law_digits_at.nd rfl (Or.inl rfl) (pe_abs (pe_op op_mod (pe_op op_add (pe_op op_add (pe_op op_mul (pv 2) pe_int) (pe_op op_mul (pv 1) pe_int)) pe_int) pe_int)))
      (pss_cons (ps_set (i := 3) sc_law_digits_at.nd rfl (Or.inl rfl) (pe_abs (pe_op op_mod (pe_op op_mul (pv 3) (pv 3)) pe_int)))
      (pss_one (ps_ret (pe_op op_add (pe_op op_mul (pv 3) pe_int) (pe_op op_mod (pe_op op_mul (pv 3) (pv 3)) pe_int)))))))), ?_⟩
  refine ⟨_, rfl, _, rfl, a, ns, k, rfl, hS, hk, ?_⟩
  refine ⟨_, rfl, a, ns, 0, rfl, hS, (by decide), _, _, rfl, rfl, ⟨by decide, by decide⟩, _, _, rfl, rfl, pz, rfl, _, rfl, ?_⟩
  refine iteDd (fun c => ?_) (fun c => ?_)
  · refine ⟨_, rfl, ?_⟩
    have e : digitsAt ns k = cellAt ns k := if_pos (vint.mp c)
    rw [e] at q
    exact q
  have e : digitsAt ns k = dig3 (dig2 (dig1 (cellAt ns k) k)) := if_neg fun z => c (vint.mpr z)
  rw [e] at q
  refine ⟨fun v H' => H = H' ∧ v = .int (dig1 (cellAt ns k) k), ⟨_, rfl, _, _, rfl, rfl, .inr ⟨by decide, by decide⟩, _, rfl, _, _, rfl, rfl, .inr ⟨by decide, by decide⟩, _, _, rfl, rfl, _, _, rfl, rfl, _, _, rfl, rfl, pz, rfl, rfl⟩, ?_⟩
  rintro _ _ ⟨rfl, rfl⟩
  have b0 : 0 ≤ dig1 (cellAt ns k) k ∧ dig1 (cellAt ns k) k < 2147483629 := by unfold dig1; omega
  generalize dig1 (cellAt ns k) k = n1 at b0 q ⊢
  refine ⟨fun v H' => H = H' ∧ v = .int (dig2 n1), ⟨_, rfl, _, rfl, _, _, rfl, rfl, .inl ⟨by omega, by omega⟩, _, _, rfl, rfl, pz, rfl, rfl⟩, ?_⟩
  rintro _ _ ⟨rfl, rfl⟩
  have b1 : 0 ≤ dig2 n1 ∧ dig2 n1 < 2147483587 := by unfold dig2; exact ⟨Int.emod_nonneg _ (by decide), Int.emod_lt_of_pos _ (by decide)⟩
  generalize dig2 n1 = n2 at b1 q ⊢
  exact ⟨_, rfl, _, _, rfl, rfl, .inr ⟨by decide, by decide⟩, _, rfl, _, rfl, _, _, rfl, rfl, .inl ⟨by omega, by omega⟩, _, _, rfl, rfl, pz, _, _, rfl, rfl, q⟩

theorem sc_law_word : FnScope ["_law_cell", "_law_size", "_law_some", "_law_number_here", "_law_word_here", "_law_k"] ["_law_cell"] (defScope s_law_word) := ⟨rfl, rfl, rfl, by decide +kernel, rfl, by decide +kernel, by decide +kernel⟩
theorem ok_law_word (B : Bi mg)  {f : Addr} {fd : FuncData} (F : Fun K "_law_word" "_law_word" s_law_word f fd) : FnOk P w K mg base CX0 1 f fd ["_law_cell"] (spWordX) := by
  refine F.ok sc_law_word (fun vs H Q E h => ?_) (fun cdv A outer s H vs Q E hr h => ?_)
  · obtain ⟨a, rfl, _⟩ := h; rfl
  obtain ⟨c, rfl, q⟩ := h
  refine ⟨_, (pss_cons (ps_set (i := 1) sc_law_word.nd rfl (Or.inl rfl) (pe_op op_mod (pv 0) pe_int))
      (pss_mid (ps_if (pt_cmpR op_eq (pe_op op_mod (pv 0) pe_int) pe_int (nomark _)) (pss_one (ps_set (i := 1) sc_law_word.nd rfl (Or.inl rfl) pe_int)) pss_nil)
      (pss_cons (ps_set (i := 2) sc_law_word.nd rfl (Or.inl rfl) (pe_ix ix_list (pe_lst (pa_cons pe_str (pa_cons pe_str pa_nil))) (pe_callTy call_int1 (by rfl) B.int bt_int (pa_cons (pe_cmpR op_eq (pe_op op_mod (pe_op op_fdiv (pv 0) pe_int) pe_int) pe_int (nomark _)) pa_nil)) (by intro _ _; rfl)))
      (pss_cons (ps_set (i := 3) sc_law_word.nd rfl (Or.inl rfl) (pe_op op_fdiv (pv 0) pe_int))
      (pss_cons (ps_set (i := 4) sc_law_word.nd rfl (Or.inl rfl) pe_str)
      (pss_cons (ps_for PassesOwn.never (by rfl) (pi_range1 (by rfl) B.range (pa_cons (pv 1) pa_nil)) (pg_name (i := 5) sc_law_word.nd rfl (Or.inl rfl)) (pss_cons (ps_set (i := 4) sc_law_word.nd rfl (Or.inl rfl) (pe_op op_add_str (pv 4) (pe_ix ix_str (pv 2) (pe_op op_mod (pv 3) pe_int) (by intro _ _; rfl))))
      (pss_one (ps_set (i := 3) sc_law_word.nd rfl (Or.inl rfl) (pe_op op_fdiv (pv 3) pe_int)))))
      (pss_one (ps_ret (pv 4))))))))), ?_⟩
  refine ⟨_, rfl, _, _, rfl, rfl, pz, ?_⟩
  refine ⟨fun σ H' => H = H' ∧ σ = [some (.int c), some (.int (wsize c)), none, none, none, none], ?_, ?_⟩
  · refine ⟨_, rfl, _, _, rfl, rfl, pz, rfl, _, rfl, ?_⟩
    refine iteDd (fun z => ?_) (fun z => ?_)
    · have e : wsize c = 40 := if_pos (vint.mp z)
      rw [e]
      exact ⟨rfl, rfl⟩
    · have e : wsize c = c % 4 := if_neg fun y => z (vint.mpr y)
      rw [e]
      exact ⟨rfl, rfl⟩
  rintro σ H' ⟨rfl, rfl⟩
  obtain ⟨h0, h1⟩ := wsize_ok c
  obtain ⟨hz, hzl⟩ := wmenu_ok c
  have hw : (∀ H', Same H H' → Q (.str (wgo (wmenu c) (c / 200) (wsize c).toNat).2) H') := q
  have hm : ∀ b : Bool, b = decide (V.int (c / 40 % 5) = V.int 4) → wmenu c = if b = true then "xkb" else "abz" := fun b hb => by
    unfold wmenu
    subst hb
    by_cases y : c / 40 % 5 = 4
    · rw [if_pos y, decide_eq_true (vint.mpr y)]; rfl
    · rw [if_neg y, decide_eq_false (fun z => y (vint.mp z))]; rfl
  generalize wsize c = n at h0 h1 hw ⊢
  refine ⟨szl (by simp), fun p hp => ⟨_, rfl, _, _, rfl, rfl, ⟨by decide, by decide⟩, _, _, rfl, rfl, pz, rfl, .inr ⟨_, rfl, p, _, _, .str (wmenu c), rfl, rfl, SqL.of upd_same, ?_, ?_⟩⟩⟩
  · rw [hm _ rfl]
    cases decide (V.int (c / 40 % 5) = V.int 4)
    · exact atI_nat (j := 0) rfl
    · exact atI_nat (j := 1) rfl
  refine ⟨_, rfl, _, _, rfl, rfl, ⟨by decide, by decide⟩, ?_⟩
  have g1 := same_new hp (.lst [V.str "abz", V.str "xkb"])
  generalize upd H p (.lst [V.str "abz", V.str "xkb"]) = H1 at g1 ⊢
  generalize wmenu c = z at hz hzl hw ⊢
  refine ⟨_, rfl, _, rfl, by omega, by omega, ?_⟩
  refine for_range (fun i σ H' => H1 = H' ∧ ∃ (y : Option V), σ = [some (.int c), some (.int n), some (.str z), some (.int (wgo z (c / 200) i).1), some (.str (wgo z (c / 200) i).2), y]) ⟨rfl, _, rfl⟩ ?_ ?_
  · rintro i σ H' hi ⟨rfl, y, rfl⟩
    obtain ⟨hc, hm⟩ := letAt_at (z := z) (i := (wgo z (c / 200) i).1 % 3) (by omega) (by rw [hz]; omega)
    obtain ⟨hx, _⟩ := wgo_ok hz hzl (c / 200) i
    refine ⟨_, rfl, _, rfl, _, rfl, _, _, rfl, rfl, pz, z, _, _, rfl, rfl, szl (by omega), hc, _, _, rfl, rfl, szl (by rw [hx, one_len]; omega), ?_⟩
    refine ⟨_, rfl, _, _, rfl, rfl, ⟨by decide, by decide⟩, ?_⟩
    exact ⟨rfl, _, rfl⟩
  · rintro σ H' ⟨rfl, y, rfl⟩
    refine ⟨_, rfl, ?_⟩
    have e : (n - 0).toNat = n.toNat := by congr 1; omega
    exact hw H1 g1

theorem sc_law_scribe : FnScope ["_law_script", "_law_at", "_law_plain", "_law_first", "_law_signs", "_law_rooms", "_law_begins", "_law_steps", "_law_ends", "_law_k", "_law_number_here", "_law_way", "_law_room", "_law_sign", "_law_word_here", "_law_step"] ["_law_script", "_law_at", "_law_plain"] (defScope s_law_scribe) := ⟨rfl, rfl, rfl, by decide +kernel, rfl, by decide +kernel, by decide +kernel⟩
theorem ok_law_scribe (B : Bi mg) (C_law_cell_at : Cal P w K mg base "_law_cell_at" ["_law_script", "_law_k"] 1 (spCell K)) (C_law_digits_at : Cal P w K mg base "_law_digits_at" ["_law_script", "_law_k"] 2 (spDigitsX K)) (C_law_word : Cal P w K mg base "_law_word" ["_law_cell"] 1 (spWordX)) {f : Addr} {fd : FuncData} (F : Fun K "_law_scribe" "_law_scribe" s_law_scribe f fd) : FnOk P w K mg base CX0 3 f fd ["_law_script", "_law_at", "_law_plain"] (spScribeX K) := by
  refine F.ok sc_law_scribe (fun vs H Q E h => ?_) (fun cdv A outer s H vs Q E hr h => ?_)
  · obtain ⟨a, ns, at_, pl, rfl, _⟩ := h; rfl
  obtain ⟨a, ns, at_, pl, rfl, hS, h63, h0, h1, q⟩ := h
  refine ⟨_, (pss_cons (ps_set (i := 3) sc_law_scribe.nd rfl (Or.inl rfl) (pe_fn C_law_cell_at hr (by decide : 1 ≤ 2) (by rfl) (pa_cons (pv 0) (pa_cons (pv 1) pa_nil))))
      (pss_cons (ps_set (i := 4) sc_law_scribe.nd rfl (Or.inl rfl) (pe_abs (pe_ix ix_list (pe_lst (pa_cons pe_str (pa_cons pe_str (pa_cons pe_str (pa_cons pe_str (pa_cons pe_str (pa_cons pe_str (pa_cons pe_str pa_nil)))))))) (pe_op op_mod (pv 3) pe_int) (by intro _ _; rfl))))
      (pss_cons (ps_set (i := 5) sc_law_scribe.nd rfl (Or.inl rfl) (pe_abs (pe_op op_mod (pe_op op_fdiv (pv 3) pe_int) (pe_ix ix_list (pe_lst (pa_cons pe_int (pa_cons pe_int pa_nil))) (pe_callTy call_int1 (by rfl) B.int bt_int (pa_cons (pe_not (pv 2)) pa_nil)) (by intro _ _; rfl)))))
      (pss_mid (ps_if (pt_abs (PW.pt (pw_and (pt_val (pv 2)) (pw_and1 (pt_cmpR op_eq (pe_op op_mod (pe_op op_fdiv (pv 3) pe_int) pe_int) pe_int (nomark _)))))) (pss_one (ps_set (i := 5) sc_law_scribe.nd rfl (Or.inl rfl) (pe_abs (pe_op op_add pe_int (pe_op op_mod (pe_op op_fdiv (pv 3) pe_int) pe_int))))) pss_nil)
      (pss_cons (ps_set (i := 6) sc_law_scribe.nd rfl (Or.inl rfl) (pe_lst pa_nil))
      (pss_cons (ps_set (i := 7) sc_law_scribe.nd rfl (Or.inl rfl) (pe_lst pa_nil))
      (pss_cons (ps_set (i := 8) sc_law_scribe.nd rfl (Or.inl rfl) (pe_lst pa_nil))
      (pss_cons (ps_for PassesOwn.never (by rfl) (pi_range2 (by rfl) B.range (pa_cons (pe_op op_add (pv 1) pe_int) (pa_cons (pe_callB (call_min2 (by rfl)) (by rfl) B.min bt_min (pa_cons (pe_op op_add (pv 1) pe_int) (pa_cons (pe_callB call_len_seq (by rfl) B.len bt_len (pa_cons (pv 0) pa_nil)) pa_nil))) pa_nil))) (pg_name (i := 9) sc_law_scribe.nd rfl (Or.inl rfl)) (pss_cons (ps_set (i := 10) sc_law_scribe.nd rfl (Or.inl rfl) (pe_abs (pe_fn C_law_digits_at hr (by decide : 2 ≤ 2) (by rfl) (pa_cons (pv 0) (pa_cons (pv 9) pa_nil)))))
      (pss_cons (ps_set (i := 11) sc_law_scribe.nd rfl (Or.inl rfl) (pe_op op_mod (pv 10) pe_int))
      (pss_cons (ps_set (i := 12) sc_law_scribe.nd rfl (Or.inr rfl) (pe_abs (pe_op op_mod (pe_op op_fdiv (pv 10) pe_int) (pe_callB (call_max2 (by rfl)) (by rfl) B.max bt_max (pa_cons pe_int (pa_cons (pv 5) pa_nil))))))
      (pss_cons (ps_set (i := 10) sc_law_scribe.nd rfl (Or.inl rfl) (pe_abs (pe_op op_fdiv (pe_op op_fdiv (pv 10) pe_int) (pe_callB (call_max2 (by rfl)) (by rfl) B.max bt_max (pa_cons pe_int (pa_cons (pv 5) pa_nil))))))
      (pss_cons (ps_set (i := 13) sc_law_scribe.nd rfl (Or.inl rfl) (pe_abs (pe_ix ix_str (pv 4) (pe_op op_mod (pv 10) (pe_callB call_len_str (by rfl) B.len bt_len (pa_cons (pv 4) pa_nil))) (by intro _ _; rfl))))
      (pss_cons (ps_set (i := 10) sc_law_scribe.nd rfl (Or.inl rfl) (pe_abs (pe_op op_fdiv (pv 10) (pe_callB call_len_str (by rfl) B.len bt_len (pa_cons (pv 4) pa_nil)))))
      (pss_cons (ps_set (i := 14) sc_law_scribe.nd rfl (Or.inl rfl) (pe_fn C_law_word hr (by decide : 1 ≤ 2) (by rfl) (pa_cons (pe_op op_fdiv (pv 10) (pe_callB (call_max2 (by rfl)) (by rfl) B.max bt_max (pa_cons pe_int (pa_cons (pv 5) pa_nil)))) pa_nil)))
      (pss_cons (ps_set (i := 15) sc_law_scribe.nd rfl (Or.inr rfl) (pe_tup (pa_cons (pv 12) (pa_cons (pv 13) (pa_cons (pv 14) (pa_cons (pe_op op_mod (pv 10) (pe_callB (call_max2 (by rfl)) (by rfl) B.max bt_max (pa_cons pe_int (pa_cons (pv 5) pa_nil)))) pa_nil))))))
      (pss_mid (ps_if (pt_abs (PW.pt (pw_and (pt_cmpR op_gt (pv 5) pe_int (nomark _)) (pw_and (pt_cmpR op_lt (pv 11) pe_int (nomark _)) (pw_and1 (pt_cmpR (op_notInD hr.units) (pv 15) (pv 7) rfl)))))) (pss_one (ps_if (pt_abs (PW.pt (pw_or (pt_not (pt_val (pv 2))) (pw_or1 (pt_cmpR op_eq (pe_callB call_len_seq (by rfl) B.len bt_len (pa_cons (pe_comp rfl (blk_mk (N' := ["_law_one", "_law_step"]) (js := [none, some 15]) rfl (by decide +kernel) rfl (by decide +kernel) rfl rfl) (pi_list (pv 7)) (fun _ _ _ _ _ => (pg_name (i := 0) (show List.Nodup (["_law_one", "_law_step"] : List Str) by decide +kernel) rfl (Or.inl rfl))) (fun _ _ _ _ _ => (pf_one (pt_cmpR (kOp (K := K) rEqD (op_eqD hr.units)) (pe_slice (kSl (K := K) rSlT sl_tup) (pv 0) po_none (po_some pe_int)) (pe_slice (kSl (K := K) rSlT sl_tup) (pv 1) po_none (po_some pe_int)) (nomark _)))) (fun _ _ _ _ _ => (pv 0))) pa_nil)) pe_int (nomark _)))))) (pss_one (ps_expr (pe_bm PySem.F.plainAttrs_list PySem.F.slot_list_append PySem.F.type_list_append mt_append (pv 7) (pa_cons (pv 15) pa_nil)))) pss_nil)) pss_nil)
      (pss_mid (ps_if (pt_abs (PW.pt (pw_and (pt_cmpR op_gt (pv 5) pe_int (nomark _)) (pw_and (pt_cmpR op_eq (pv 11) pe_int (nomark _)) (pw_and1 (pt_cmpR (op_notInD hr.units) (pe_tup (pa_cons (pv 12) (pa_cons (pv 14) pa_nil))) (pv 8) rfl)))))) (pss_one (ps_if (pt_abs (PW.pt (pw_or (pt_not (pt_val (pv 2))) (pw_or1 (pt_cmpR op_eq (pe_callB call_len_seq (by rfl) B.len bt_len (pa_cons (pe_comp rfl (blk_mk (N' := ["_law_one", "_law_room"]) (js := [none, some 12]) rfl (by decide +kernel) rfl (by decide +kernel) rfl rfl) (pi_list (pv 8)) (fun _ _ _ _ _ => (pg_name (i := 0) (show List.Nodup (["_law_one", "_law_room"] : List Str) by decide +kernel) rfl (Or.inl rfl))) (fun _ _ _ _ _ => (pf_one (pt_cmpR op_eq (pe_ix (kIx (K := K) rIxT ix_tup) (pv 0) pe_int (by intro _ _; rfl)) (pv 1) (nomark _)))) (fun _ _ _ _ _ => (pv 0))) pa_nil)) pe_int (nomark _)))))) (pss_one (ps_expr (pe_bm PySem.F.plainAttrs_list PySem.F.slot_list_append PySem.F.type_list_append mt_append (pv 8) (pa_cons (pe_tup (pa_cons (pv 12) (pa_cons (pv 14) pa_nil))) pa_nil)))) pss_nil)) pss_nil)
      (pss_one (ps_if (pt_abs (PW.pt (pw_and (pt_cmpR op_gt (pv 5) pe_int (nomark _)) (pw_and (pt_cmpR op_eq (pv 11) pe_int (nomark _)) (pw_and (pt_cmpR (op_notInD hr.units) (pe_tup (pa_cons (pv 12) (pa_cons (pv 14) pa_nil))) (pv 6) rfl) (pw_and1 (PW.pt (pw_or (pt_cmpR op_eq (pe_callB call_len_seq (by rfl) B.len bt_len (pa_cons (pv 6) pa_nil)) pe_int (nomark _)) (pw_or1 (pt_not (pt_val (pv 2)))))))))))) (pss_one (ps_expr (pe_bm PySem.F.plainAttrs_list PySem.F.slot_list_append PySem.F.type_list_append mt_append (pv 6) (pa_cons (pe_tup (pa_cons (pv 12) (pa_cons (pv 14) pa_nil))) pa_nil)))) pss_nil)))))))))))))
      (pss_mid (ps_if (pt_abs (PW.pt (pw_and (pt_cmpR op_gt (pv 5) pe_int (nomark _)) (pw_and (pt_cmpR op_eq (pe_callB call_len_seq (by rfl) B.len bt_len (pa_cons (pv 6) pa_nil)) pe_int (nomark _)) (pw_and1 (pt_cmpR op_gt (pe_op op_mod (pe_op op_fdiv (pv 3) pe_int) pe_int) pe_int (nomark _))))))) (pss_one (ps_expr (pe_bm PySem.F.plainAttrs_list PySem.F.slot_list_append PySem.F.type_list_append mt_append (pv 6) (pa_cons (pe_tup (pa_cons (pe_op op_mod (pe_op op_fdiv (pv 3) pe_int) (pv 5)) (pa_cons (pe_fn C_law_word hr (by decide : 1 ≤ 2) (by rfl) (pa_cons (pe_op op_fdiv (pv 3) pe_int) pa_nil)) pa_nil))) pa_nil)))) pss_nil)
      (pss_mid (ps_if (pt_abs (PW.pt (pw_and (pt_cmpR op_gt (pv 5) pe_int (nomark _)) (pw_and (pt_cmpR op_eq (pe_callB call_len_seq (by rfl) B.len bt_len (pa_cons (pv 8) pa_nil)) pe_int (nomark _)) (pw_and1 (pt_cmpR op_gt (pe_op op_mod (pe_op op_fdiv (pv 3) pe_int) pe_int) pe_int (nomark _))))))) (pss_one (ps_expr (pe_bm PySem.F.plainAttrs_list PySem.F.slot_list_append PySem.F.type_list_append mt_append (pv 8) (pa_cons (pe_tup (pa_cons (pe_op op_mod (pe_op op_fdiv (pv 3) pe_int) (pv 5)) (pa_cons (pe_fn C_law_word hr (by decide : 1 ≤ 2) (by rfl) (pa_cons (pe_op op_fdiv (pv 3) pe_int) pa_nil)) pa_nil))) pa_nil)))) pss_nil)
      (pss_one (ps_ret (pe_tup (pa_cons (pv 4) (pa_cons (pv 5) (pa_cons (pv 6) (pa_cons (pv 7) (pa_cons (pv 8) pa_nil)))))))))))))))))), ?_⟩
  refine ⟨_, rfl, _, rfl, a, ns, at_, rfl, hS, h0, ?_⟩
  have q : ∀ v H' pb ps pe, NewS K H H' pl 95 (fixE (cellAt ns at_) (fixB (cellAt ns at_) (loopS ns at_ pl ⟨menu (cellAt ns at_), roomsOf (cellAt ns at_) pl, [], [], []⟩ (turns ns at_)))) v pb ps pe → Q v H' := q
  generalize cellAt ns at_ = fi at q ⊢
  refine ⟨fun v H' => Same H H' ∧ v = .str (menu fi), ⟨szl (by simp), fun p hp => ⟨_, rfl, _, _, rfl, rfl, pz, p, _, _, _, rfl, rfl, SqL.of upd_same, menu_at fi, same_new hp _, rfl⟩⟩, ?_⟩
  rintro _ H1 ⟨g1, rfl⟩
  obtain ⟨hg1, hg2, hg3, hg4⟩ := menu_ok fi
  generalize menu fi = g at hg1 hg2 hg3 hg4 q ⊢
  refine ⟨fun v H' => Same H1 H' ∧ v = .int (roomsA fi pl), ⟨_, rfl, _, _, rfl, rfl, ⟨by decide, by decide⟩, szl (by simp), fun p hp => ⟨_, rfl, _, rfl, .inr ⟨_, rfl, p, _, _, .int (if pl = true then 9 else 5), rfl, rfl, SqL.of upd_same, ?_, ?_⟩⟩⟩, ?_⟩
  · cases pl
    · exact atI_nat (j := 1) rfl
    · exact atI_nat (j := 0) rfl
  · exact ⟨_, _, rfl, rfl, by split <;> decide, same_new hp _, rfl⟩
  rintro _ H2 ⟨g2, rfl⟩
  refine ⟨fun σ H' => H2 = H' ∧ σ = [some (.ref a), some (.int at_), some (.bl pl), some (.int fi), some (.str g), some (.int (roomsOf fi pl)), none, none, none, none, none, none, none, none, none, none], ?_, ?_⟩
  · refine ⟨fun b H' => H2 = H' ∧ (b = true ↔ (pl = true ∧ fi / 500 % 6 = 1)), ?_, ?_⟩
    · refine ⟨_, rfl, _, rfl, iteB (fun hp => ?_) (fun hp => ⟨rfl, ff fun z => by rw [z.1] at hp; cases hp⟩)⟩
      exact ⟨_, rfl, _, _, rfl, rfl, ⟨by decide, by decide⟩, _, _, rfl, rfl, pz, rfl, _, rfl, rfl, by rw [decide_eq_true_eq, vint]; exact ⟨fun z => ⟨hp, z⟩, fun z => z.2⟩⟩
    · rintro b _ ⟨rfl, hb⟩
      refine iteB (fun z => ?_) (fun z => ?_)
      · have e : roomsOf fi pl = 11 + fi / 3000 % 4 := if_pos (hb.mp z)
        rw [e]
        refine ⟨fun v H' => H2 = H' ∧ v = .int (11 + fi / 3000 % 4), ⟨_, rfl, _, _, rfl, rfl, ⟨by decide, by decide⟩, _, _, rfl, rfl, pz, _, _, rfl, rfl, rfl, rfl⟩, ?_⟩
        rintro _ _ ⟨rfl, rfl⟩
        exact ⟨rfl, rfl⟩
      · have e : roomsOf fi pl = roomsA fi pl := if_neg fun y => by rw [hb.mpr y] at z; cases z
        rw [e]
        exact ⟨rfl, rfl⟩
  rintro σ H' ⟨rfl, rfl⟩
  obtain ⟨hr0, hr1⟩ := roomsOf_ok fi pl
  generalize roomsOf fi pl = r at hr0 hr1 q ⊢
  refine ⟨szl (by simp), fun pb hpb => ?_⟩
  refine ⟨szl (by simp), fun ps hps => ?_⟩
  refine ⟨szl (by simp), fun pe hpe => ?_⟩
  have G0 : Same H H2 := g1.trans g2
  have hps' : H2 ps = none := (same_new hpb _).free hps
  have hpe' : upd H2 pb (.lst []) pe = none := (same_new hps _).free hpe
  have AP : Apart H pb ps pe := ⟨G0.free hpb, G0.free hps', G0.free ((same_new hpb _).free hpe'), ne_of_none upd_same hps, ne_of_none upd_same hpe', ne_of_none upd_same hpe⟩
  obtain ⟨s0, hs0⟩ : ∃ s0 : Scr, s0 = ⟨g, r, [], [], []⟩ := ⟨_, rfl⟩
  rw [← hs0] at q
  have HI0 : HX K H pb ps pe pl g r 0 (loopS ns at_ pl s0 0) (upd (upd (upd H2 pb (.lst [])) ps (.lst [])) pe (.lst [])) :=
    ⟨[], [], [], [], [], [], hs0, ((G0.trans (same_new hpb _)).trans (same_new hps _)).trans (same_new hpe _), by rw [upd_ne AP.be, upd_ne AP.bs]; exact upd_same, by rw [upd_ne AP.se]; exact upd_same, upd_same, .nil, .nil, .nil,
      ⟨Nat.zero_le _, Nat.zero_le _, Nat.zero_le _, by simp, by simp, by simp, by simp, by simp, by simp, fun _ => Nat.zero_le _, fun _ => by simp, fun _ => by simp⟩⟩
  generalize upd (upd (upd H2 pb (.lst [])) ps (.lst [])) pe (.lst []) = H3 at HI0 ⊢
  have hS3 : SqL K H3 a (ns.map V.int) := by obtain ⟨_, _, _, _, _, _, _, z, _⟩ := HI0; exact z.seq hS
  refine ⟨_, rfl, _, _, rfl, rfl, _, rfl, _, _, rfl, rfl, _, rfl, a, _, rfl, .inl hS3, _, _, rfl, _, _, rfl, ⟨?_, ?_, ?_, ?_⟩, ?_⟩
  · show -(2 ^ 62) ≤ at_ + 1; omega
  · show at_ + 1 < 2 ^ 62; omega
  · rw [List.length_map]
    show -(2 ^ 62 : Int) ≤ if (ns.length : Int) < at_ + 32 then (ns.length : Int) else at_ + 32
    split <;> omega
  · rw [List.length_map]
    show (if (ns.length : Int) < at_ + 32 then (ns.length : Int) else at_ + 32) < 2 ^ 62
    split <;> omega
  rw [List.length_map]
  have hturns : turns ns at_ ≤ 31 := by unfold turns; split <;> omega
  refine for_range (n := turns ns at_) (fun i σ H' => HX K H pb ps pe pl g r (3 * i) (loopS ns at_ pl s0 i) H' ∧ ∃ x9 x10 x11 x12 x13 x14 x15, σ = [some (.ref a), some (.int at_), some (.bl pl), some (.int fi), some (.str g), some (.int r), some (.ref pb), some (.ref ps), some (.ref pe), x9, x10, x11, x12, x13, x14, x15]) ⟨HI0, _, _, _, _, _, _, _, rfl⟩ ?_ ?_
  · rintro i σ H4 hi ⟨hI, x9, x10, x11, x12, x13, x14, x15, rfl⟩
    have hi31 : i < 31 := Nat.lt_of_lt_of_le hi hturns
    have hS4 : SqL K H4 a (ns.map V.int) := by obtain ⟨_, _, _, _, _, _, _, z, _⟩ := hI; exact z.seq hS
    refine ⟨fun v H' => H4 = H' ∧ v = .int (digitsAt ns (at_ + 1 + (i : Int))), ⟨_, rfl, _, rfl, a, ns, _, rfl, hS4, by omega, rfl, rfl⟩, ?_⟩
    rintro _ _ ⟨rfl, rfl⟩
    have hstep : loopS ns at_ pl s0 (i + 1) = cellS pl (digitsAt ns (at_ + 1 + (i : Int))) (loopS ns at_ pl s0 i) := rfl
    generalize digitsAt ns (at_ + 1 + (i : Int)) = n1 at hstep ⊢
    refine ⟨_, rfl, _, _, rfl, rfl, pz, ?_⟩
    have hmx : 0 < mx r ∧ mx r < 1073741824 := by show 0 < (if r > 1 then r else 1) ∧ (if r > 1 then r else 1) < 1073741824; split <;> omega
    refine ⟨fun v H' => H4 = H' ∧ ∃ n : Int, v = .int n ∧ n = n1 / 6 % mx r ∧ 0 ≤ n ∧ (0 < r → n < r), ⟨_, rfl, _, _, rfl, rfl, ⟨by decide, by decide⟩, _, rfl, _, _, rfl, _, _, rfl, rfl, hmx.1, rfl, _, rfl, rfl, modmax _ hr0⟩, ?_⟩
    rintro _ _ ⟨rfl, ro, rfl, ero, ro0, ro1⟩
    refine ⟨fun v H' => H4 = H' ∧ ∃ n : Int, v = .int n ∧ n = n1 / 6 / mx r, ⟨_, rfl, _, _, rfl, rfl, ⟨by decide, by decide⟩, _, rfl, _, _, rfl, _, _, rfl, rfl, hmx, rfl, _, rfl, rfl⟩, ?_⟩
    rintro _ _ ⟨rfl, n2, rfl, en2⟩
    have hgl : (0 : Int) < g.length ∧ (g.length : Int) < 1073741824 := by omega
    refine ⟨fun v H' => H4 = H' ∧ ∃ c, v = .str ⟨#[c]⟩ ∧ c ∈ cl g ∧ c = letAt g (n2 % (g.length : Int)), ?_, ?_⟩
    · obtain ⟨hc, hm⟩ := letAt_at (z := g) (i := n2 % (g.length : Int)) (Int.emod_nonneg _ (by omega)) (Int.emod_lt_of_pos _ hgl.1)
      exact ⟨_, rfl, _, rfl, _, rfl, g, rfl, szl (by omega), _, _, rfl, rfl, hgl.1, g, _, _, rfl, rfl, szl (by omega), hc, rfl, _, rfl, hm, rfl⟩
    rintro _ _ ⟨rfl, sg, rfl, hsg, esg⟩
    refine ⟨fun v H' => H4 = H' ∧ ∃ n : Int, v = .int n ∧ n = n2 / (g.length : Int), ⟨_, rfl, _, rfl, g, rfl, szl (by omega), _, _, rfl, rfl, hgl, rfl, _, rfl, rfl⟩, ?_⟩
    rintro _ _ ⟨rfl, n3, rfl, en3⟩
    refine ⟨_, rfl, _, rfl, _, _, rfl, _, _, rfl, rfl, hmx, _, rfl, fun H5 g5 => ?_⟩
    have hwd := wordOf_wd (n3 / mx r)
    obtain ⟨wd, ewd⟩ : ∃ wd, wd = wordOf (n3 / mx r) := ⟨_, rfl⟩
    rw [← ewd] at hwd
    show _
    have ewd' : wordOf (n3 / if r > 1 then r else 1) = wd := ewd.symm
    rw [ewd']
    obtain ⟨to0, to1⟩ := modmax n3 hr0
    refine ⟨_, rfl, _, rfl, _, rfl, _, rfl, _, rfl, _, _, rfl, _, _, rfl, rfl, hmx.1, (by show 4 ≤ sizeLine; decide), fun t ht => ?_⟩
    dsimp only
    obtain ⟨to, eto⟩ : ∃ to, to = n3 % (if r > 1 then r else 1) := ⟨_, rfl⟩
    rw [← eto] at to0 to1 ⊢
    have hI6 : HX K H pb ps pe pl g r (3 * i) (loopS ns at_ pl s0 i) (upd H5 t (.tup [.int ro, .str ⟨#[sg]⟩, .str wd, .int to])) := hI.mono (g5.trans (same_new ht _)) (Nat.le_refl _)
    have hT6 : SqT K (upd H5 t (.tup [.int ro, .str ⟨#[sg]⟩, .str wd, .int to])) t [.int ro, .str ⟨#[sg]⟩, .str wd, .int to] := SqT.of upd_same
    generalize upd H5 t (.tup [.int ro, .str ⟨#[sg]⟩, .str wd, .int to]) = H6 at hI6 hT6 ⊢
    obtain ⟨B, S, E', xb, xs, xe, i0, i1, i2, i3, i4, i5, i6, i7, i8⟩ := hI6
    have hput : loopS ns at_ pl s0 (i + 1) = put3 pl ⟨g, r, B, S, E'⟩ ro ⟨#[sg]⟩ wd to (n1 % 6) := by
      rw [hstep, i0]
      subst eto ewd en3 esg en2 ero
      rfl
    clear hstep hI HI0 i0
    unfold put3 at hput
    -- a step
    refine ⟨fun σ' H' => [some (.ref a), some (.int at_), some (.bl pl), some (.int fi), some (.str g), some (.int r), some (.ref pb), some (.ref ps), some (.ref pe), some (.int (at_ + 1 + (i : Int))), some (.int n3), some (.int (n1 % 6)), some (.int ro), some (.str ⟨#[sg]⟩), some (.str wd), some (.ref t)] = σ' ∧ HX K H pb ps pe pl g r (3 * i + 1) (addSt pl ⟨g, r, B, S, E'⟩ (ro, ⟨#[sg]⟩, wd, to) (n1 % 6)) H' ∧ SqT K H' t [.int ro, .str ⟨#[sg]⟩, .str wd, .int to], ?_, ?_⟩
    · have stay : ∀ H', Same H6 H' → ¬ cSt pl r S (ro, ⟨#[sg]⟩, wd, to) (n1 % 6) → HX K H pb ps pe pl g r (3 * i + 1) (addSt pl ⟨g, r, B, S, E'⟩ (ro, ⟨#[sg]⟩, wd, to) (n1 % 6)) H' := fun H' g' nc => by
        have e : addSt pl ⟨g, r, B, S, E'⟩ (ro, ⟨#[sg]⟩, wd, to) (n1 % 6) = ⟨g, r, B, S, E'⟩ := if_neg nc
        rw [e]
        exact HX.mono ⟨B, S, E', xb, xs, xe, rfl, i1, i2, i3, i4, i5, i6, i7, i8⟩ g' (by omega)
      refine ⟨fun b H' => H6 = H' ∧ (b = true ↔ (0 < r ∧ n1 % 6 < 4 ∧ (ro, (⟨#[sg]⟩ : Str), wd, to) ∉ S)), ?_, ?_⟩
      · refine ⟨_, rfl, _, _, rfl, rfl, _, rfl, iteDd (fun c1 => ?_) (fun c1 => ⟨rfl, ff fun z => c1 z.1⟩)⟩
        refine ⟨_, rfl, _, _, rfl, rfl, _, rfl, iteDd (fun c2 => ?_) (fun c2 => ⟨rfl, ff fun z => c2 z.2.1⟩)⟩
        refine ⟨_, rfl, _, rfl, dSt (ro, ⟨#[sg]⟩, wd, to), ps, xs, S.map dSt, StV.rep ⟨t, rfl, hT6⟩, rfl, SqL.of i3, reps_st i6, Nat.le_trans (deeps_map dSt 1 deep_dSt S) (by decide), _, rfl, rfl, ?_⟩
        show (!((S.map dSt).any fun e => eqD e (dSt (ro, ⟨#[sg]⟩, wd, to)))) = true ↔ _
        rw [any_mem dSt eqD_dSt]
        simp only [Bool.not_eq_true', decide_eq_false_iff_not]
        exact ⟨fun z => ⟨c1, c2, z⟩, fun z => z.2.2⟩
      · rintro b _ ⟨rfl, hb⟩
        refine iteB (fun hbt => ?_) (fun hbf => ⟨rfl, stay _ (Same.refl _) (fun z => by rw [hb.mpr ⟨z.1, z.2.1, z.2.2.1⟩] at hbf; cases hbf), hT6⟩)
        obtain ⟨hr2, hw4, hnS⟩ := hb.mp hbt
        refine ⟨fun b H' => Same H6 H' ∧ (b = true ↔ (pl = true → ∀ t' ∈ S, ¬ (t'.1 = ro ∧ t'.2.1 = ⟨#[sg]⟩))), ?_, ?_⟩
        · refine ⟨_, rfl, _, rfl, iteB (fun hn => ⟨Same.refl _, (fun _ h => by rw [h] at hn; cases hn), fun _ => rfl⟩) (fun hn => ?_)⟩
          have hpl : pl = true := by revert hn; cases pl <;> simp
          refine ⟨_, rfl, ps, rfl, ⟨xs, SqL.of i3⟩, ?_⟩
          refine comp_list (xs := xs) (fun j ys τ H' => Same H6 H' ∧ (∃ x, τ = [x, some (.ref t)]) ∧ j ≤ xs.length ∧ ys.length ≤ j ∧ (ys = [] ↔ ∀ t' ∈ S.take j, ¬ (t'.1 = ro ∧ t'.2.1 = ⟨#[sg]⟩))) ⟨Same.refl _, ⟨_, rfl⟩, Nat.zero_le _, Nat.zero_le _, by simp⟩ (fun j ys τ H' z => z.1.seq (SqL.of i3)) ?_ ?_
          · rintro j x ys τ H7 hx ⟨g7, ⟨y, rfl⟩, hj, hyl, hyn⟩
            obtain ⟨t', ht', b', rfl, hb'⟩ := paired_get i6 hx
            have hjl : j < xs.length := (List.getElem?_eq_some_iff.mp hx).1
            have hb7 := (Same.grow g7).seqT hb'
            have hT7 := (Same.grow g7).seqT hT6
            have hx31 : xs.length ≤ 93 := by have := i6.length; have : S.length ≤ 3 * i := i8.ls; omega
            refine ⟨_, rfl, _, rfl, b', _, rfl, hb7, (show ¬ (0 = 0 ∧ 2 = 4) by decide), fun p1 hp1 => ?_⟩
            have hT8 := (grow_new hp1 (.tup (cutV [V.int t'.1, V.str t'.2.1, V.str t'.2.2.1, V.int t'.2.2.2] none (some 2)))).seqT hT7
            refine ⟨_, rfl, _, rfl, t, _, rfl, hT8, (show ¬ (0 = 0 ∧ 2 = 4) by decide), fun p2 hp2 => ?_⟩
            have e1 := (grow_new hp2 (.tup (cutV [V.int ro, V.str ⟨#[sg]⟩, V.str wd, V.int to] none (some 2)))).seqT (SqT.of (K := K) (upd_same (H := H7) (a := p1) (o := .tup (cutV [V.int t'.1, V.str t'.2.1, V.str t'.2.2.1, V.int t'.2.2.2] none (some 2)))))
            refine ⟨.tup [.int t'.1, .str t'.2.1], .tup [.int ro, .str ⟨#[sg]⟩], rep_tup e1 (.cons (rep_int _) (.cons (rep_str _) .nil)), rep_tup (SqT.of upd_same) (.cons (rep_int _) (.cons (rep_str _) .nil)), (by simp [deep, deeps]), _, rfl, ?_⟩
            rw [eq2]
            have g9 := (g7.trans (same_new hp1 (.tup (cutV [V.int t'.1, V.str t'.2.1, V.str t'.2.2.1, V.int t'.2.2.2] none (some 2))))).trans (same_new hp2 (.tup (cutV [V.int ro, V.str ⟨#[sg]⟩, V.str wd, V.int to] none (some 2))))
            refine iteDd (fun c => ?_) (fun c => ?_)
            · refine ⟨_, rfl, szl' (by omega), g9, ⟨_, rfl⟩, hjl, by rw [List.length_append, List.length_singleton]; omega, fun z => absurd z (by simp), fun z => ?_⟩
              rw [take_get ht'] at z
              exact absurd c (z t' (by simp))
            · refine ⟨g9, ⟨_, rfl⟩, hjl, by omega, hyn.trans ?_⟩
              rw [take_get ht']
              constructor
              · intro z t'' h''
                rcases List.mem_append.mp h'' with h'' | h''
                · exact z t'' h''
                · rw [List.mem_singleton.mp h'']; exact c
              · intro z t'' h''
                exact z t'' (List.mem_append_left _ h'')
          · rintro ys τ H7 ⟨g7, _, _, hyl, hyn⟩ p hp
            refine ⟨p, ys, rfl, .inl (SqL.of upd_same), rfl, _, rfl, g7.trans (same_new hp _), ?_⟩
            rw [← i6.length, List.take_length] at hyn
            rw [decide_eq_true_eq, vint]
            have e1 : ((ys.length : Nat) : Int) = 0 ↔ ys = [] := ⟨fun z => List.eq_nil_of_length_eq_zero (by omega), fun z => by rw [z]; rfl⟩
            rw [e1, hyn]
            exact ⟨fun z _ => z, fun z => z hpl⟩
        · rintro b H7 ⟨g7, hb7⟩
          have hT7 := (Same.grow g7).seqT hT6
          refine iteB (fun hbt2 => ?_) (fun hbf2 => ⟨rfl, stay _ g7 (fun z => by rw [hb7.mpr z.2.2.2] at hbf2; cases hbf2), hT7⟩)
          have hlx : xs.length < sizeLine := by have := i6.length; have : S.length ≤ 3 * i := i8.ls; exact szl' (by omega)
          have e : addSt pl ⟨g, r, B, S, E'⟩ (ro, ⟨#[sg]⟩, wd, to) (n1 % 6) = ⟨g, r, B, S ++ [(ro, ⟨#[sg]⟩, wd, to)], E'⟩ := if_pos ⟨hr2, hw4, hnS, hb7.mp hbt2⟩
          rw [e]
          refine ⟨_, rfl, .inl ⟨rfl, _, SqL.of (g7 _ _ i3)⟩, _, rfl, ps, xs, .ref t, rfl, rfl, g7 _ _ i3, hlx, rfl, ?_, (grow_upd (g7 _ _ i3) _).seqT hT7⟩
          exact HX.addStep AP (i1.trans g7) (g7 _ _ i2) (g7 _ _ i3) (g7 _ _ i4) (paired_mono (fun _ _ => MkV.mono (Same.grow g7)) i5) (paired_mono (fun _ _ => StV.mono (Same.grow g7)) i6) (paired_mono (fun _ _ => MkV.mono (Same.grow g7)) i7)
            (i8.step ro0 (ro1 hr2) ⟨sg, hsg, rfl⟩ hwd to0 (to1 hr2) hnS (hb7.mp hbt2)) ⟨t, rfl, hT7⟩
    generalize addSt pl ⟨g, r, B, S, E'⟩ (ro, ⟨#[sg]⟩, wd, to) (n1 % 6) = s1 at hput ⊢
    clear i1 i2 i3 i4 i5 i6 i7 i8 B S E' xb xs xe
    rintro _ H7 ⟨rfl, hI7, hT7⟩
    obtain ⟨B, S, E', xb, xs, xe, rfl, i1, i2, i3, i4, i5, i6, i7, i8⟩ := hI7
    -- an end
    refine ⟨fun σ' H' => [some (.ref a), some (.int at_), some (.bl pl), some (.int fi), some (.str g), some (.int r), some (.ref pb), some (.ref ps), some (.ref pe), some (.int (at_ + 1 + (i : Int))), some (.int n3), some (.int (n1 % 6)), some (.int ro), some (.str ⟨#[sg]⟩), some (.str wd), some (.ref t)] = σ' ∧ HX K H pb ps pe pl g r (3 * i + 2) (addEn pl ⟨g, r, B, S, E'⟩ (ro, wd) (n1 % 6)) H', ?_, ?_⟩
    · have stay : ∀ H', Same H7 H' → ¬ cEn pl r E' (ro, wd) (n1 % 6) → HX K H pb ps pe pl g r (3 * i + 2) (addEn pl ⟨g, r, B, S, E'⟩ (ro, wd) (n1 % 6)) H' := fun H' g' nc => by
        have e : addEn pl ⟨g, r, B, S, E'⟩ (ro, wd) (n1 % 6) = ⟨g, r, B, S, E'⟩ := if_neg nc
        rw [e]
        exact HX.mono ⟨B, S, E', xb, xs, xe, rfl, i1, i2, i3, i4, i5, i6, i7, i8⟩ g' (by omega)
      refine ⟨fun b H' => Same H7 H' ∧ (b = true ↔ (0 < r ∧ n1 % 6 = 4 ∧ (ro, wd) ∉ E')), ?_, ?_⟩
      · refine ⟨_, rfl, _, _, rfl, rfl, _, rfl, iteDd (fun c1 => ?_) (fun c1 => ⟨Same.refl _, ff fun z => c1 z.1⟩)⟩
        refine ⟨_, rfl, rfl, _, rfl, iteDd (fun c2 => ?_) (fun c2 => ⟨Same.refl _, ff fun z => c2 (vint.mpr z.2.1)⟩)⟩
        refine ⟨_, rfl, _, rfl, (by show 2 ≤ sizeLine; decide), fun p hp => ?_⟩
        have gp := same_new hp (.tup [V.int ro, V.str wd])
        refine ⟨_, rfl, dMk (ro, wd), pe, xe, E'.map dMk, MkV.rep ⟨p, rfl, SqT.of upd_same⟩, rfl, SqL.of (gp _ _ i4), notIn_mk (m := (ro, wd)) (paired_mono (fun _ _ => MkV.mono (Same.grow gp)) i7), Nat.le_trans (deeps_map dMk 1 deep_dMk E') (by decide), _, rfl, gp, ?_⟩
        show (!((E'.map dMk).any fun e => eqD e (dMk (ro, wd)))) = true ↔ _
        rw [any_mem dMk eqD_dMk]
        simp only [Bool.not_eq_true', decide_eq_false_iff_not]
        exact ⟨fun z => ⟨c1, vint.mp c2, z⟩, fun z => z.2.2⟩
      · rintro b H8 ⟨g8, hb⟩
        refine iteB (fun hbt => ?_) (fun hbf => ⟨rfl, stay _ g8 (fun z => by rw [hb.mpr ⟨z.1, z.2.1, z.2.2.1⟩] at hbf; cases hbf)⟩)
        obtain ⟨hr2, hw4, hnE⟩ := hb.mp hbt
        have i7' : Paired (MkV K H8) E' xe := paired_mono (fun _ _ => MkV.mono (Same.grow g8)) i7
        refine ⟨fun b H' => Same H8 H' ∧ (b = true ↔ (pl = true → ∀ m ∈ E', m.1 ≠ ro)), ?_, ?_⟩
        · refine ⟨_, rfl, _, rfl, iteB (fun hn => ⟨Same.refl _, (fun _ h => by rw [h] at hn; cases hn), fun _ => rfl⟩) (fun hn => ?_)⟩
          have hpl : pl = true := by revert hn; cases pl <;> simp
          refine ⟨_, rfl, pe, rfl, ⟨xe, SqL.of (g8 _ _ i4)⟩, ?_⟩
          refine comp_list (xs := xe) (fun j ys τ H' => H8 = H' ∧ (∃ x, τ = [x, some (.int ro)]) ∧ j ≤ xe.length ∧ ys.length ≤ j ∧ (ys = [] ↔ ∀ m ∈ E'.take j, m.1 ≠ ro)) ⟨rfl, ⟨_, rfl⟩, Nat.zero_le _, Nat.zero_le _, by simp⟩ (fun j ys τ H' z => z.1 ▸ SqL.of (g8 _ _ i4)) ?_ ?_
          · rintro j x ys τ _ hx ⟨rfl, ⟨y, rfl⟩, hj, hyl, hyn⟩
            obtain ⟨m, hm, b', rfl, hb'⟩ := paired_get i7' hx
            have hjl : j < xe.length := (List.getElem?_eq_some_iff.mp hx).1
            have hx31 : xe.length ≤ 94 := by have := i7.length; have : E'.length ≤ 3 * i + 1 := i8.le; omega
            refine ⟨_, rfl, _, _, _, _, rfl, rfl, hb', rfl, _, rfl, rfl, _, rfl, ?_⟩
            refine iteDd (fun c => ?_) (fun c => ?_)
            · refine ⟨_, rfl, szl' (by omega), rfl, ⟨_, rfl⟩, hjl, by rw [List.length_append, List.length_singleton]; omega, fun z => absurd z (by simp), fun z => ?_⟩
              rw [take_get hm] at z
              exact absurd (vint.mp c) (z m (by simp))
            · refine ⟨rfl, ⟨_, rfl⟩, hjl, by omega, hyn.trans ?_⟩
              rw [take_get hm]
              constructor
              · intro z m' h'
                rcases List.mem_append.mp h' with h' | h'
                · exact z m' h'
                · rw [List.mem_singleton.mp h']; exact fun e => c (by rw [e])
              · intro z m' h'
                exact z m' (List.mem_append_left _ h')
          · rintro ys τ _ ⟨rfl, _, _, hyl, hyn⟩ p hp
            refine ⟨p, ys, rfl, .inl (SqL.of upd_same), rfl, _, rfl, same_new hp _, ?_⟩
            rw [← i7.length, List.take_length] at hyn
            rw [decide_eq_true_eq, vint]
            have e1 : ((ys.length : Nat) : Int) = 0 ↔ ys = [] := ⟨fun z => List.eq_nil_of_length_eq_zero (by omega), fun z => by rw [z]; rfl⟩
            rw [e1, hyn]
            exact ⟨fun z _ => z, fun z => z hpl⟩
        · rintro b H9 ⟨g9, hb9⟩
          have gg := g8.trans g9
          refine iteB (fun hbt2 => ?_) (fun hbf2 => ⟨rfl, stay _ gg (fun z => by rw [hb9.mpr z.2.2.2] at hbf2; cases hbf2)⟩)
          have hlx : xe.length < sizeLine := by have := i7.length; have : E'.length ≤ 3 * i + 1 := i8.le; exact szl' (by omega)
          have e : addEn pl ⟨g, r, B, S, E'⟩ (ro, wd) (n1 % 6) = ⟨g, r, B, S, E' ++ [(ro, wd)]⟩ := if_pos ⟨hr2, hw4, hnE, hb9.mp hbt2⟩
          rw [e]
          refine ⟨_, rfl, .inl ⟨rfl, _, SqL.of (gg _ _ i4)⟩, _, rfl, _, rfl, (by show 2 ≤ sizeLine; decide), fun p hp => ?_⟩
          have gp := gg.trans (same_new hp (.tup [V.int ro, V.str wd]))
          refine ⟨pe, xe, .ref p, rfl, rfl, gp _ _ i4, hlx, rfl, ?_⟩
          exact HX.addEnd AP (i1.trans gp) (gp _ _ i2) (gp _ _ i3) (gp _ _ i4) (paired_mono (fun _ _ => MkV.mono (Same.grow gp)) i5) (paired_mono (fun _ _ => StV.mono (Same.grow gp)) i6) (paired_mono (fun _ _ => MkV.mono (Same.grow gp)) i7)
            (i8.end_ ro0 (ro1 hr2) hwd hnE (hb9.mp hbt2)) ⟨p, rfl, SqT.of upd_same⟩
    generalize addEn pl ⟨g, r, B, S, E'⟩ (ro, wd) (n1 % 6) = s2 at hput ⊢
    clear i1 i2 i3 i4 i5 i6 i7 i8 B S E' xb xs xe
    rintro _ H8 ⟨rfl, hI8⟩
    obtain ⟨B, S, E', xb, xs, xe, rfl, i1, i2, i3, i4, i5, i6, i7, i8⟩ := hI8
    -- a begin
    rw [hput]
    have stay : ∀ H', Same H8 H' → ¬ cBe pl r B (ro, wd) (n1 % 6) → HX K H pb ps pe pl g r (3 * (i + 1)) (addBe pl ⟨g, r, B, S, E'⟩ (ro, wd) (n1 % 6)) H' := fun H' g' nc => by
      have e : addBe pl ⟨g, r, B, S, E'⟩ (ro, wd) (n1 % 6) = ⟨g, r, B, S, E'⟩ := if_neg nc
      rw [e]
      exact HX.mono ⟨B, S, E', xb, xs, xe, rfl, i1, i2, i3, i4, i5, i6, i7, i8⟩ g' (by omega)
    refine ⟨fun b H' => Same H8 H' ∧ (b = true ↔ cBe pl r B (ro, wd) (n1 % 6)), ?_, ?_⟩
    · refine ⟨_, rfl, _, _, rfl, rfl, _, rfl, iteDd (fun c1 => ?_) (fun c1 => ⟨Same.refl _, ff fun z => c1 z.1⟩)⟩
      refine ⟨_, rfl, rfl, _, rfl, iteDd (fun c2 => ?_) (fun c2 => ⟨Same.refl _, ff fun z => c2 (vint.mpr z.2.1)⟩)⟩
      refine ⟨_, rfl, _, rfl, (by show 2 ≤ sizeLine; decide), fun p hp => ?_⟩
      have gp := same_new hp (.tup [V.int ro, V.str wd])
      refine ⟨_, rfl, dMk (ro, wd), pb, xb, B.map dMk, MkV.rep ⟨p, rfl, SqT.of upd_same⟩, rfl, SqL.of (gp _ _ i2), notIn_mk (m := (ro, wd)) (paired_mono (fun _ _ => MkV.mono (Same.grow gp)) i5), Nat.le_trans (deeps_map dMk 1 deep_dMk B) (by decide), _, rfl, iteB (fun z => ?_) (fun z => ⟨gp, ff fun y => ?_⟩)⟩
      rotate_left
      · have z' : (!((B.map dMk).any fun e => eqD e (dMk (ro, wd)))) = false := z
        rw [any_mem dMk eqD_dMk] at z'
        exact y.2.2.1 (by simpa using z')
      have z' : (!((B.map dMk).any fun e => eqD e (dMk (ro, wd)))) = true := z
      rw [any_mem dMk eqD_dMk] at z'
      have hnB : (ro, wd) ∉ B := by simpa using z'
      refine ⟨_, rfl, pb, xb, rfl, .inl (SqL.of (gp _ _ i2)), rfl, _, rfl, iteDd (fun c => ?_) (fun c => ?_)⟩
      · refine ⟨gp, fun _ => ⟨c1, vint.mp c2, hnB, .inl ?_⟩, fun _ => rfl⟩
        have c := vint.mp c
        rw [i5.length]; omega
      · refine ⟨_, rfl, _, rfl, gp, fun hn => ⟨c1, vint.mp c2, hnB, .inr (by revert hn; cases pl <;> simp)⟩, fun y => ?_⟩
        rcases y.2.2.2 with y | y
        · exact absurd (vint.mpr (by rw [← i5.length]; omega)) c
        · rw [y]; rfl
    · rintro b H9 ⟨g9, hb⟩
      refine iteB (fun hbt => ?_) (fun hbf => ⟨stay _ g9 (fun z => by rw [hb.mpr z] at hbf; cases hbf), _, _, _, _, _, _, _, rfl⟩)
      obtain ⟨hr2, hw5, hnB, hB0⟩ := hb.mp hbt
      have hB1 : pl = true → B.length = 0 := fun hp => by
        rcases hB0 with z | z
        · exact z
        · rw [hp] at z; cases z
      have e : addBe pl ⟨g, r, B, S, E'⟩ (ro, wd) (n1 % 6) = ⟨g, r, B ++ [(ro, wd)], S, E'⟩ := if_pos (hb.mp hbt)
      rw [e]
      have hlx : xb.length < sizeLine := by have := i5.length; have : B.length ≤ 3 * i + 2 := i8.lb; exact szl' (by omega)
      refine ⟨_, rfl, .inl ⟨rfl, _, SqL.of (g9 _ _ i2)⟩, _, rfl, _, rfl, (by show 2 ≤ sizeLine; decide), fun p hp => ?_⟩
      have gp := g9.trans (same_new hp (.tup [V.int ro, V.str wd]))
      refine ⟨pb, xb, .ref p, rfl, rfl, gp _ _ i2, hlx, ?_, _, _, _, _, _, _, _, rfl⟩
      exact HX.addBegin AP (i1.trans gp) (gp _ _ i2) (gp _ _ i3) (gp _ _ i4) (paired_mono (fun _ _ => MkV.mono (Same.grow gp)) i5) (paired_mono (fun _ _ => StV.mono (Same.grow gp)) i6) (paired_mono (fun _ _ => MkV.mono (Same.grow gp)) i7)
        (i8.begin ro0 (ro1 hr2) hwd hnB hB1) ⟨p, rfl, SqT.of upd_same⟩
  rintro σ H4 ⟨hI, x9, x10, x11, x12, x13, x14, x15, rfl⟩
  have hI : HX K H pb ps pe pl g r 93 (loopS ns at_ pl s0 (turns ns at_)) H4 := hI.mono (Same.refl _) (by omega)
  generalize loopS ns at_ pl s0 (turns ns at_) = s at hI q
  obtain ⟨B, S, E', xb, xs, xe, rfl, i1, i2, i3, i4, i5, i6, i7, i8⟩ := hI
  refine ⟨fun σ' H' => [some (.ref a), some (.int at_), some (.bl pl), some (.int fi), some (.str g), some (.int r), some (.ref pb), some (.ref ps), some (.ref pe), x9, x10, x11, x12, x13, x14, x15] = σ' ∧ HX K H pb ps pe pl g r 94 (fixB fi ⟨g, r, B, S, E'⟩) H', ?_, ?_⟩
  · refine ⟨fun b H' => H4 = H' ∧ (b = true ↔ (0 < r ∧ B = [] ∧ fi / 45 % 8 > 0)), ?_, ?_⟩
    · refine ⟨_, rfl, _, _, rfl, rfl, _, rfl, iteDd (fun c1 => ?_) (fun c1 => ⟨rfl, ff fun z => c1 z.1⟩)⟩
      have eB : xb.length = 0 ↔ B = [] := by rw [← i5.length]; exact ⟨List.eq_nil_of_length_eq_zero, fun z => by rw [z]; rfl⟩
      refine ⟨_, rfl, pb, xb, rfl, .inl (SqL.of i2), rfl, _, rfl, iteDd (fun c => ?_) (fun c => ⟨rfl, ff fun z => c (vint.mpr (by rw [eB.mpr z.2.1]; rfl))⟩)⟩
      refine ⟨_, rfl, _, _, rfl, rfl, ⟨by decide, by decide⟩, _, _, rfl, rfl, pz, _, _, rfl, rfl, _, rfl, rfl, ?_⟩
      have c := vint.mp c
      rw [decide_eq_true_eq]
      exact ⟨fun z => ⟨c1, eB.mp (by omega), z⟩, fun z => z.2.2⟩
    · rintro b _ ⟨rfl, hb⟩
      refine iteB (fun hbt => ?_) (fun hbf => ⟨rfl, ?_⟩)
      rotate_left
      · have e : fixB fi ⟨g, r, B, S, E'⟩ = ⟨g, r, B, S, E'⟩ := if_neg fun z => by rw [hb.mpr z] at hbf; cases hbf
        rw [e]
        exact HX.mono ⟨B, S, E', xb, xs, xe, rfl, i1, i2, i3, i4, i5, i6, i7, i8⟩ (Same.refl _) (by omega)
      have e : fixB fi ⟨g, r, B, S, E'⟩ = ⟨g, r, B ++ [(fi / 360 % r, wordOf (fi / 3600))], S, E'⟩ := if_pos (hb.mp hbt)
      rw [e]
      obtain ⟨hr2, rfl, _⟩ := hb.mp hbt
      have m0 := Int.emod_nonneg (fi / 360) (show r ≠ 0 by omega)
      have m1 := Int.emod_lt_of_pos (fi / 360) hr2
      have hlx : xb.length < sizeLine := by rw [← i5.length]; exact szl' (by decide)
      refine ⟨_, rfl, .inl ⟨rfl, _, SqL.of i2⟩, _, rfl, _, _, rfl, rfl, ⟨by decide, by decide⟩, _, rfl, _, _, rfl, rfl, hr2, _, rfl, _, _, rfl, rfl, ⟨by decide, by decide⟩, _, rfl, fun H5 g5 => ⟨(by show 2 ≤ sizeLine; decide), fun p hp => ?_⟩⟩
      have hwd := wordOf_wd (fi / 3600)
      dsimp only at hp ⊢
      have gp := g5.trans (same_new hp (.tup [V.int (fi / 360 % r), V.str (wordOf (fi / 3600))]))
      refine ⟨pb, xb, .ref p, rfl, rfl, gp _ _ i2, hlx, rfl, ?_⟩
      exact HX.addBegin AP (i1.trans gp) (gp _ _ i2) (gp _ _ i3) (gp _ _ i4) (paired_mono (fun _ _ => MkV.mono (Same.grow gp)) i5) (paired_mono (fun _ _ => StV.mono (Same.grow gp)) i6) (paired_mono (fun _ _ => MkV.mono (Same.grow gp)) i7)
        (i8.begin m0 m1 hwd (by simp) (fun _ => rfl)) ⟨p, rfl, SqT.of upd_same⟩
  generalize fixB fi ⟨g, r, B, S, E'⟩ = s at q
  clear i1 i2 i3 i4 i5 i6 i7 i8 B S E' xb xs xe
  rintro _ H5 ⟨rfl, B, S, E', xb, xs, xe, rfl, i1, i2, i3, i4, i5, i6, i7, i8⟩
  refine ⟨fun σ' H' => [some (.ref a), some (.int at_), some (.bl pl), some (.int fi), some (.str g), some (.int r), some (.ref pb), some (.ref ps), some (.ref pe), x9, x10, x11, x12, x13, x14, x15] = σ' ∧ HX K H pb ps pe pl g r 95 (fixE fi ⟨g, r, B, S, E'⟩) H', ?_, ?_⟩
  · refine ⟨fun b H' => H5 = H' ∧ (b = true ↔ (0 < r ∧ E' = [] ∧ fi / 45 % 8 > 1)), ?_, ?_⟩
    · refine ⟨_, rfl, _, _, rfl, rfl, _, rfl, iteDd (fun c1 => ?_) (fun c1 => ⟨rfl, ff fun z => c1 z.1⟩)⟩
      have eB : xe.length = 0 ↔ E' = [] := by rw [← i7.length]; exact ⟨List.eq_nil_of_length_eq_zero, fun z => by rw [z]; rfl⟩
      refine ⟨_, rfl, pe, xe, rfl, .inl (SqL.of i4), rfl, _, rfl, iteDd (fun c => ?_) (fun c => ⟨rfl, ff fun z => c (vint.mpr (by rw [eB.mpr z.2.1]; rfl))⟩)⟩
      refine ⟨_, rfl, _, _, rfl, rfl, ⟨by decide, by decide⟩, _, _, rfl, rfl, pz, _, _, rfl, rfl, _, rfl, rfl, ?_⟩
      have c := vint.mp c
      rw [decide_eq_true_eq]
      exact ⟨fun z => ⟨c1, eB.mp (by omega), z⟩, fun z => z.2.2⟩
    · rintro b _ ⟨rfl, hb⟩
      refine iteB (fun hbt => ?_) (fun hbf => ⟨rfl, ?_⟩)
      rotate_left
      · have e : fixE fi ⟨g, r, B, S, E'⟩ = ⟨g, r, B, S, E'⟩ := if_neg fun z => by rw [hb.mpr z] at hbf; cases hbf
        rw [e]
        exact HX.mono ⟨B, S, E', xb, xs, xe, rfl, i1, i2, i3, i4, i5, i6, i7, i8⟩ (Same.refl _) (by omega)
      have e : fixE fi ⟨g, r, B, S, E'⟩ = ⟨g, r, B, S, E' ++ [(fi / 361 % r, wordOf (fi / 7))]⟩ := if_pos (hb.mp hbt)
      rw [e]
      obtain ⟨hr2, rfl, _⟩ := hb.mp hbt
      have m0 := Int.emod_nonneg (fi / 361) (show r ≠ 0 by omega)
      have m1 := Int.emod_lt_of_pos (fi / 361) hr2
      have hlx : xe.length < sizeLine := by rw [← i7.length]; exact szl' (by decide)
      refine ⟨_, rfl, .inl ⟨rfl, _, SqL.of i4⟩, _, rfl, _, _, rfl, rfl, ⟨by decide, by decide⟩, _, rfl, _, _, rfl, rfl, hr2, _, rfl, _, _, rfl, rfl, ⟨by decide, by decide⟩, _, rfl, fun H6 g6 => ⟨(by show 2 ≤ sizeLine; decide), fun p hp => ?_⟩⟩
      have hwd := wordOf_wd (fi / 7)
      dsimp only at hp ⊢
      have gp := g6.trans (same_new hp (.tup [V.int (fi / 361 % r), V.str (wordOf (fi / 7))]))
      refine ⟨pe, xe, .ref p, rfl, rfl, gp _ _ i4, hlx, rfl, ?_⟩
      exact HX.addEnd AP (i1.trans gp) (gp _ _ i2) (gp _ _ i3) (gp _ _ i4) (paired_mono (fun _ _ => MkV.mono (Same.grow gp)) i5) (paired_mono (fun _ _ => StV.mono (Same.grow gp)) i6) (paired_mono (fun _ _ => MkV.mono (Same.grow gp)) i7)
        (i8.end_ m0 m1 hwd (by simp) (fun _ m hm => by simp at hm)) ⟨p, rfl, SqT.of upd_same⟩
  generalize fixE fi ⟨g, r, B, S, E'⟩ = s at q
  clear i1 i2 i3 i4 i5 i6 i7 i8 B S E' xb xs xe
  rintro _ H6 ⟨rfl, B, S, E', xb, xs, xe, rfl, i1, i2, i3, i4, i5, i6, i7, i8⟩
  refine ⟨_, rfl, _, rfl, _, rfl, _, rfl, _, rfl, (by show 5 ≤ sizeLine; decide), fun v hv => ?_⟩
  have gv := same_new hv (.tup [V.str g, V.int r, V.ref pb, V.ref ps, V.ref pe])
  exact q _ _ pb ps pe ⟨i1.trans gv, ⟨v, xb, xs, xe, rfl, SqT.of upd_same, SqL.of (gv _ _ i2), SqL.of (gv _ _ i3), SqL.of (gv _ _ i4), paired_mono (fun _ _ => MkV.mono (Same.grow gv)) i5, paired_mono (fun _ _ => StV.mono (Same.grow gv)) i6, paired_mono (fun _ _ => MkV.mono (Same.grow gv)) i7⟩,
    i8, hr0, hr1, hg1, hg2, hg3, hg4⟩

theorem sc_law_copied : FnScope ["_law_scribe_here"] ["_law_scribe_here"] (defScope s_law_copied) := ⟨rfl, rfl, rfl, by decide +kernel, rfl, by decide +kernel, by decide +kernel⟩
theorem ok_law_copied (B : Bi mg)  {f : Addr} {fd : FuncData} (F : Fun K "_law_copied" "_law_copied" s_law_copied f fd) : FnOk P w K mg base CX0 1 f fd ["_law_scribe_here"] (spCopied K) := by
  refine F.ok sc_law_copied (fun vs H Q E h => ?_) (fun cdv A outer s H vs Q E hr h => ?_)
  · obtain ⟨v, s, pb, ps, pe, rfl, _⟩ := h; rfl
  obtain ⟨v, s, pb, ps, pe, rfl, hV, q⟩ := h
  refine ⟨_, (pss_one (ps_ret (pe_tup (pa_cons (pe_ix ix_tup (pv 0) pe_int (by intro _ _; rfl)) (pa_cons (pe_ix ix_tup (pv 0) pe_int (by intro _ _; rfl)) (pa_cons (pe_callTy call_list_of (by rfl) B.list bt_list (pa_cons (pe_ix ix_tup (pv 0) pe_int (by intro _ _; rfl)) pa_nil)) (pa_cons (pe_callTy call_list_of (by rfl) B.list bt_list (pa_cons (pe_ix ix_tup (pv 0) pe_int (by intro _ _; rfl)) pa_nil)) (pa_cons (pe_callTy call_list_of (by rfl) B.list bt_list (pa_cons (pe_ix ix_tup (pv 0) pe_int (by intro _ _; rfl)) pa_nil)) pa_nil)))))))), ?_⟩
  obtain ⟨a, xb, xs, xe, rfl, h1, h2, h3, h4, h5, h6, h7⟩ := hV
  refine ⟨_, rfl, _, _, _, _, rfl, rfl, h1, rfl, _, rfl, _, _, _, _, rfl, rfl, h1, rfl, _, rfl, _, _, _, _, rfl, rfl, h1, rfl, pb, xb, rfl, .inl h2, fun qb hqb => ?_⟩
  have g1 := same_new hqb (.lst xb)
  refine ⟨_, rfl, _, _, _, _, rfl, rfl, Same.seqT g1 h1, rfl, ps, xs, rfl, .inl (g1.seq h3), fun qs hqs => ?_⟩
  have g2 := g1.trans (same_new hqs (.lst xs))
  refine ⟨_, rfl, _, _, _, _, rfl, rfl, Same.seqT g2 h1, rfl, pe, xe, rfl, .inl (g2.seq h4), fun qe hqe => ⟨(by show 5 ≤ sizeLine; decide), fun v hv => ?_⟩⟩
  have g3 := g2.trans (same_new hqe (.lst xe))
  have gv := same_new hv (.tup [V.str s.signs, V.int s.rooms, V.ref qb, V.ref qs, V.ref qe])
  have hqs' : H qs = none := g1.free hqs
  have hqe' : upd H qb (.lst xb) qe = none := (same_new hqs (.lst xs)).free hqe
  have AP : Apart H qb qs qe := ⟨hqb, hqs', g1.free hqe', ne_of_none upd_same hqs, ne_of_none upd_same hqe', ne_of_none upd_same hqe⟩
  have eb : upd (upd (upd H qb (.lst xb)) qs (.lst xs)) qe (.lst xe) qb = some (.lst xb) := by rw [upd_ne AP.be, upd_ne AP.bs]; exact upd_same
  have es : upd (upd (upd H qb (.lst xb)) qs (.lst xs)) qe (.lst xe) qs = some (.lst xs) := by rw [upd_ne AP.se]; exact upd_same
  have ee : upd (upd (upd H qb (.lst xb)) qs (.lst xs)) qe (.lst xe) qe = some (.lst xe) := upd_same
  have G := Same.grow (g3.trans gv)
  exact q _ _ qb qs qe (g3.trans gv) ⟨v, xb, xs, xe, rfl, SqT.of upd_same, gv _ _ eb, gv _ _ es, gv _ _ ee, paired_mono (fun _ _ => MkV.mono G) h5, paired_mono (fun _ _ => StV.mono G) h6, paired_mono (fun _ _ => MkV.mono G) h7⟩ AP

theorem sc_law_letters : FnScope ["_law_thing"] ["_law_thing"] (defScope s_law_letters) := ⟨rfl, rfl, rfl, by decide +kernel, rfl, by decide +kernel, by decide +kernel⟩
theorem ok_law_letters (B : Bi mg)  {f : Addr} {fd : FuncData} (F : Fun K "_law_letters" "_law_letters" s_law_letters f fd) : FnOk P w K mg base CX0 1 f fd ["_law_thing"] (spLets K) := by
  refine F.ok sc_law_letters (fun vs H Q E h => ?_) (fun cdv A outer s H vs Q E hr h => ?_)
  · obtain ⟨v, d, rfl, _⟩ := h; rfl
  obtain ⟨v, d, rfl, rep, sm, q⟩ := h
  refine ⟨_, (pss_cons (ps_if (pt_not (pt_val (pe_callB call_isinstD (by rfl) B.isinstance bt_isinstance (pa_cons (pv 0) (pa_cons (pe_ty (by rfl) B.str bt_str) pa_nil))))) (pss_one (ps_ret pe_bl)) pss_nil)
      (pss_one (ps_ret (pe_cmpR op_eq (pe_callB call_len_seq (by rfl) B.len bt_len (pa_cons (pe_comp rfl (blk_mk (N' := ["_law_sign"]) (js := [none]) rfl (by decide +kernel) rfl (by decide +kernel) rfl rfl) (pi_str (pv 0)) (fun _ _ _ _ _ => (pg_name (i := 0) (show List.Nodup (["_law_sign"] : List Str) by decide +kernel) rfl (Or.inl rfl))) (fun _ _ _ _ _ => (pf_one (pt_cmpR op_notIn_str (pv 0) pe_str rfl))) (fun _ _ _ _ _ => (pv 0))) pa_nil)) pe_int (nomark _))))), ?_⟩
  refine ⟨_, rfl, v, d, "str", rfl, rep, .inr (.inr (.inr (.inl rfl))), _, rfl, ?_⟩
  cases d with
  | str x =>
    refine iteF ?_
    unfold Rep at rep
    subst rep
    have hx : x.length ≤ 4000 := by unfold small at sm; exact sm
    have hxl : (cl x).length = x.length := cl_length x
    refine ⟨_, rfl, x, rfl, ?_⟩
    refine comp_str (x := x) (fun i ys τ H' => H = H' ∧ (∃ x, τ = [x]) ∧ i ≤ (cl x).length ∧ ys.length ≤ i ∧ (ys = [] ↔ ∀ c ∈ (cl x).take i, 97 ≤ c ∧ c ≤ 122)) ⟨rfl, ⟨_, rfl⟩, Nat.zero_le _, Nat.zero_le _, by simp⟩ ?_ ?_
    · rintro i c ys τ _ hc ⟨rfl, ⟨y, rfl⟩, hi, hyl, hys⟩
      have hil : i < (cl x).length := (List.getElem?_eq_some_iff.mp hc).1
      refine ⟨_, rfl, _, _, rfl, rfl, _, rfl, ?_⟩
      rw [in_one]
      refine iteNd (fun c1 => ?_) (fun c1 => ?_)
      · refine ⟨_, rfl, szl' (by omega), rfl, ⟨_, rfl⟩, hil, by rw [List.length_append, List.length_singleton]; omega, ⟨fun z => absurd z (by simp), fun z => ?_⟩⟩
        rw [take_get hc] at z
        exact absurd ((abc_mem c).mpr (z c (by simp))) c1
      · refine ⟨rfl, ⟨_, rfl⟩, hil, by omega, hys.trans ?_⟩
        rw [take_get hc]
        constructor
        · intro z c' hc'
          rcases List.mem_append.mp hc' with h | h
          · exact z c' h
          · rw [List.mem_singleton.mp h]; exact (abc_mem c).mp c1
        · intro z c' hc'
          exact z c' (List.mem_append_left _ hc')
    rintro ys τ _ ⟨rfl, _, _, hyl, hys⟩ p hp
    rw [List.take_length] at hys
    refine ⟨p, ys, rfl, .inl (SqL.of upd_same), rfl, ?_⟩
    have e : wordD (.str x) = decide (V.int (ys.length : Int) = V.int 0) := by
      show wordS x = _
      unfold wordS
      rw [Bool.eq_iff_iff, List.all_eq_true, decide_eq_true_eq]
      have e1 : V.int (ys.length : Int) = V.int 0 ↔ ys = [] := ⟨fun z => by injection z with z; exact List.eq_nil_of_length_eq_zero (by omega), fun z => by rw [z]; rfl⟩
      rw [e1, hys]
      simp
    have q' := q _ (same_new hp (.lst ys))
    rw [e] at q'
    exact q'
  | _ => exact iteT (q H (Same.refl H))

theorem sc_law_number : FnScope ["_law_thing", "_law_most"] ["_law_thing", "_law_most"] (defScope s_law_number) := ⟨rfl, rfl, rfl, by decide +kernel, rfl, by decide +kernel, by decide +kernel⟩
theorem ok_law_number (B : Bi mg)  {f : Addr} {fd : FuncData} (F : Fun K "_law_number" "_law_number" s_law_number f fd) : FnOk P w K mg base CX0 1 f fd ["_law_thing", "_law_most"] (spNumB K) := by
  refine F.ok sc_law_number (fun vs H Q E h => ?_) (fun cdv A outer s H vs Q E hr h => ?_)
  · obtain ⟨v, d, n, rfl, _⟩ := h; rfl
  obtain ⟨v, d, n, rfl, rep, q⟩ := h
  refine ⟨_, (pss_one (ps_ret (pe_and (pe_callB call_isinstD (by rfl) B.isinstance bt_isinstance (pa_cons (pv 0) (pa_cons (pe_ty (by rfl) B.int bt_int) pa_nil))) (pe_and (pe_not (pe_callB call_isinstD (by rfl) B.isinstance bt_isinstance (pa_cons (pv 0) (pa_cons (pe_ty (by rfl) B.bool bt_bool) pa_nil)))) (pe_and (pe_cmpR op_ge (pv 0) pe_int (nomark _)) (pe_one (pe_cmpR op_lt (pv 0) (pv 1) (nomark _)))))))), ?_⟩
  refine ⟨_, rfl, v, d, "int", rfl, rep, .inr (.inl rfl), _, rfl, ?_⟩
  cases d with
  | int i =>
    refine iteT ?_
    refine ⟨_, rfl, v, .int i, "bool", rfl, rep, .inr (.inr (.inl rfl)), _, rfl, _, rfl, iteT ?_⟩
    unfold Rep at rep
    subst rep
    refine ⟨_, rfl, _, _, rfl, rfl, _, rfl, iteDd (fun c1 => ?_) (fun c1 => ?_)⟩
    · refine ⟨_, rfl, _, rfl, _, _, rfl, rfl, ?_⟩
      have e : numD (.int i) n = decide (i < n) := by show (decide (0 ≤ i) && decide (i < n)) = _; rw [decide_eq_true c1, Bool.true_and]
      rw [e] at q
      exact q
    · have e : numD (.int i) n = false := by show (decide (0 ≤ i) && decide (i < n)) = _; rw [decide_eq_false c1, Bool.false_and]
      rw [e] at q
      exact q
  | bl b =>
    refine iteT ?_
    refine ⟨_, rfl, v, .bl b, "bool", rfl, rep, .inr (.inr (.inl rfl)), _, rfl, _, rfl, iteF ?_⟩
    exact q
  | _ => exact iteF q

theorem sc_law_good : FnScope ["_law_thing", "_law_rooms", "_law_signs"] ["_law_thing", "_law_rooms", "_law_signs"] (defScope s_law_good) := ⟨rfl, rfl, rfl, by decide +kernel, rfl, by decide +kernel, by decide +kernel⟩
theorem ok_law_good (B : Bi mg) (C_law_letters : Cal P w K mg base "_law_letters" ["_law_thing"] 1 (spLets K)) (C_law_number : Cal P w K mg base "_law_number" ["_law_thing", "_law_most"] 1 (spNumB K)) {f : Addr} {fd : FuncData} (F : Fun K "_law_good" "_law_good" s_law_good f fd) : FnOk P w K mg base CX0 2 f fd ["_law_thing", "_law_rooms", "_law_signs"] (spGood K) := by
  refine F.ok sc_law_good (fun vs H Q E h => ?_) (fun cdv A outer s H vs Q E hr h => ?_)
  · obtain ⟨v, d, g, r, rfl, _⟩ := h; rfl
  obtain ⟨v, d, g, r, rfl, rep, sm, hg, q⟩ := h
  refine ⟨_, (pss_cons (ps_if (PW.pt (pw_or (pt_not (pt_val (pe_callB call_isinstD (by rfl) B.isinstance bt_isinstance (pa_cons (pv 0) (pa_cons (pe_ty (by rfl) B.tuple bt_tuple) pa_nil))))) (pw_or1 (pt_cmpR op_ne (pe_callB (CallR.or call_len_seq call_len_str) (by rfl) B.len bt_len (pa_cons (pv 0) pa_nil)) (pe_ix ix_list (pe_lst (pa_cons pe_int (pa_cons pe_int pa_nil))) (pe_callTy call_int1 (by rfl) B.int bt_int (pa_cons (pe_cmpR op_ne (pv 2) pe_str (nomark _)) pa_nil)) (by intro _ _; rfl)) (nomark _))))) (pss_one (ps_ret pe_bl)) pss_nil)
      (pss_cons (ps_if (pt_cmpR op_eq (pv 2) pe_str (nomark _)) (pss_one (ps_ret (pe_and (pe_fn C_law_number hr (by decide : 1 ≤ 1) (by rfl) (pa_cons (pe_ix ix_tup (pv 0) pe_int (by intro _ _; rfl)) (pa_cons (pv 1) pa_nil))) (pe_one (pe_fn C_law_letters hr (by decide : 1 ≤ 1) (by rfl) (pa_cons (pe_ix ix_tup (pv 0) pe_int (by intro _ _; rfl)) pa_nil)))))) pss_nil)
      (pss_cons (ps_if (PW.pt (pw_or (pt_not (pt_val (pe_fn C_law_number hr (by decide : 1 ≤ 1) (by rfl) (pa_cons (pe_ix ix_tup (pv 0) pe_int (by intro _ _; rfl)) (pa_cons (pv 1) pa_nil))))) (pw_or (pt_not (pt_val (pe_fn C_law_letters hr (by decide : 1 ≤ 1) (by rfl) (pa_cons (pe_ix ix_tup (pv 0) pe_int (by intro _ _; rfl)) pa_nil)))) (pw_or1 (pt_cmpR op_ne (pe_callB (CallR.or call_len_seq call_len_str) (by rfl) B.len bt_len (pa_cons (pe_ix ix_tup (pv 0) pe_int (by intro _ _; rfl)) pa_nil)) pe_int (nomark _)))))) (pss_one (ps_ret pe_bl)) pss_nil)
      (pss_one (ps_ret (pe_and (pe_cmpR op_in_str (pe_ix ix_tup (pv 0) pe_int (by intro _ _; rfl)) (pv 2) rfl) (pe_and (pe_fn C_law_letters hr (by decide : 1 ≤ 1) (by rfl) (pa_cons (pe_ix ix_tup (pv 0) pe_int (by intro _ _; rfl)) pa_nil)) (pe_one (pe_fn C_law_number hr (by decide : 1 ≤ 1) (by rfl) (pa_cons (pe_ix ix_tup (pv 0) pe_int (by intro _ _; rfl)) (pa_cons (pv 1) pa_nil))))))))))), ?_⟩
  refine ⟨_, rfl, v, d, "tuple", rfl, rep, .inl rfl, _, rfl, ?_⟩
  cases d with
  | tup ds =>
    refine iteF ?_
    obtain ⟨a, xs, rfl, hq, rs⟩ := Rep.tup2 rep
    have sm' : smalls ds := by unfold small at sm; exact sm
    have hg0 : (V.str g = V.str "") ↔ cl g = [] := by
      have e0 : cl ("" : Str) = [] := by decide +kernel
      exact ⟨fun z => by injection z with z; rw [z]; exact e0, fun z => by rw [show g = "" from str_ext (by rw [z, e0])]⟩
    refine ⟨_, rfl, .inl ⟨a, xs, rfl, .inr hq, szl (by simp), fun p hp => ⟨_, rfl, rfl, .inr ⟨_, rfl, p, _, _, .int (if cl g = [] then 2 else 4), rfl, rfl, SqL.of upd_same, ?_, rfl, _, rfl, ?_⟩⟩⟩⟩
    · by_cases c : cl g = []
      · rw [if_pos c, decide_eq_true (hg0.mpr c)]
        exact atI_nat (j := 0) rfl
      · rw [if_neg c, decide_eq_false (fun z => c (hg0.mp z))]
        exact atI_nat (j := 1) rfl
    have gp := same_new hp (.lst [V.int 2, V.int 4])
    generalize upd H p (.lst [V.int 2, V.int 4]) = H1 at gp ⊢
    refine iteNd (fun c => ?_) (fun c => ?_)
    · have e : goodD g r (.tup ds) = false := good_not (by
        show decide ((ds.length : Int) = _) = false
        rw [rs.length]
        exact decide_eq_false fun z => c (by rw [z]))
      rw [e] at q
      exact q H1 gp
    have hlen : (ds.length : Int) = if cl g = [] then 2 else 4 := by injection c with c; rw [rs.length]; exact c
    refine ⟨_, rfl, rfl, _, rfl, iteDd (fun c2 => ?_) (fun c2 => ?_)⟩
    · have c3 := hg0.mp c2
      rw [if_pos c3] at hlen
      match ds, hlen with
      | [d0, d1], _ =>
        obtain ⟨v0, r0, rfl, p0, rs⟩ := rs.inv
        obtain ⟨v1, r1, rfl, p1, rs⟩ := rs.inv
        cases rs.inv0
        have e : goodD g r (.tup [d0, d1]) = (numD d0 r && wordD d1) := by unfold goodD; rw [if_pos c3]; rfl
        rw [e] at q
        refine ⟨_, rfl, _, _, _, _, rfl, rfl, Same.seqT gp hq, rfl, _, rfl, v0, d0, r, rfl, Rep.mono gp _ _ p0, _, rfl, ?_⟩
        refine iteB (fun c4 => ?_) (fun c4 => ?_)
        · rw [c4, Bool.true_and] at q
          exact ⟨_, rfl, _, _, _, _, rfl, rfl, Same.seqT gp hq, rfl, v1, d1, rfl, Rep.mono gp _ _ p1, smalls_mem sm' (by simp), fun H2 g2 => q H2 (gp.trans g2)⟩
        · rw [c4] at q
          exact q H1 gp
    · have c3 : ¬ cl g = [] := fun z => c2 (hg0.mpr z)
      rw [if_neg c3] at hlen
      match ds, hlen with
      | [d0, d1, d2, d3], _ =>
        obtain ⟨v0, r0, rfl, p0, rs⟩ := rs.inv
        obtain ⟨v1, r1, rfl, p1, rs⟩ := rs.inv
        obtain ⟨v2, r2, rfl, p2, rs⟩ := rs.inv
        obtain ⟨v3, r3, rfl, p3, rs⟩ := rs.inv
        cases rs.inv0
        have e : goodD g r (.tup [d0, d1, d2, d3]) = stepD g r (.tup [d0, d1, d2, d3]) := by unfold goodD; rw [if_neg c3]
        rw [e] at q
        have no : (numD d0 r = false ∨ wordD d1 = false ∨ ∀ y, d1 = .str y → y.length = 1 → inS y g = true → wordD d2 = false ∨ numD d3 r = false) → stepD g r (.tup [d0, d1, d2, d3]) = false := fun z => by
          cases d1 with
          | str y =>
            show (numD d0 r && (numD d3 r && (decide (y.length = 1) && (inS y g && wordD d2)))) = false
            rcases z with z | z | z
            · rw [z]; rfl
            · by_cases c1 : y.length = 1
              · cases c2 : inS y g with
                | false => simp
                | true =>
                  have : wordS y = false := z
                  rw [one_word hg c1 c2] at this; cases this
              · simp [c1]
            · by_cases c1 : y.length = 1
              · cases c2 : inS y g with
                | false => simp
                | true => rcases z y rfl c1 c2 with z | z <;> rw [z] <;> simp
              · simp [c1]
          | _ => rfl
        refine ⟨_, rfl, _, _, _, _, rfl, rfl, Same.seqT gp hq, rfl, _, rfl, v0, d0, r, rfl, Rep.mono gp _ _ p0, _, rfl, ?_⟩
        cases h0 : numD d0 r with
        | false => rw [no (.inl h0)] at q; exact iteT (q H1 gp)
        | true =>
        refine iteF ?_
        refine ⟨_, rfl, _, _, _, _, rfl, rfl, Same.seqT gp hq, rfl, v1, d1, rfl, Rep.mono gp _ _ p1, smalls_mem sm' (by simp), fun H2 g2 => ⟨_, rfl, ?_⟩⟩
        have g12 := gp.trans g2
        cases h1 : wordD d1 with
        | false => rw [no (.inr (.inl h1))] at q; exact iteT (q H2 g12)
        | true =>
        refine iteF ?_
        obtain ⟨y, rfl⟩ : ∃ y, d1 = .str y := by
          cases d1 with
          | str y => exact ⟨y, rfl⟩
          | _ => cases h1
        have hy : y.length ≤ 4000 := by
          have := smalls_mem sm' (show D.str y ∈ [d0, D.str y, d2, d3] by simp)
          unfold small at this; exact this
        unfold Rep at p1
        subst p1
        refine ⟨_, rfl, _, _, _, _, rfl, rfl, Same.seqT g12 hq, rfl, .inr ⟨y, rfl, szl (by omega), rfl, _, rfl, iteNd (fun c => ?_) (fun c => ?_)⟩⟩
        · rw [no (.inr (.inr fun y' e c1 _ => by injection e with e; subst e; exact absurd (by rw [c1]; rfl) c))] at q
          exact q H2 g12
        have hy1 : y.length = 1 := by injection c with c; omega
        refine ⟨_, rfl, _, _, _, _, rfl, rfl, Same.seqT g12 hq, rfl, _, rfl, y, g, rfl, rfl, _, rfl, ?_⟩
        show if inS y g = true then _ else _
        cases hi : inS y g with
        | false =>
          rw [no (.inr (.inr fun y' e _ c2 => by injection e with e; subst e; rw [hi] at c2; cases c2))] at q
          exact iteF (q H2 g12)
        | true =>
          refine iteT ?_
          refine ⟨_, rfl, _, _, _, _, rfl, rfl, Same.seqT g12 hq, rfl, v2, d2, rfl, Rep.mono g12 _ _ p2, smalls_mem sm' (by simp), fun H3 g3 => ⟨_, rfl, ?_⟩⟩
          have g13 := g12.trans g3
          refine iteB (fun c2 => ?_) (fun c2 => ?_)
          · have e : stepD g r (.tup [d0, .str y, d2, d3]) = numD d3 r := by
              show (numD d0 r && (numD d3 r && (decide (y.length = 1) && (inS y g && wordD d2)))) = _
              rw [h0, decide_eq_true hy1, hi, c2]; simp
            rw [e] at q
            exact ⟨_, rfl, _, _, _, _, rfl, rfl, Same.seqT g13 hq, rfl, _, rfl, v3, d3, r, rfl, Rep.mono g13 _ _ p3, q H3 g13⟩
          · rw [no (.inr (.inr fun y' e c1 c3 => .inl c2))] at q
            exact q H3 g13
  | _ => exact iteT (by rw [good_not (by unfold tupD; rfl)] at q; exact q H (Same.refl H))

theorem sc_law_due : FnScope ["_law_thing", "_law_k", "_law_at"] ["_law_thing"] (defScope s_law_due) := ⟨rfl, rfl, rfl, by decide +kernel, rfl, by decide +kernel, by decide +kernel⟩
theorem ok_law_due (B : Bi mg) (C_law_letters : Cal P w K mg base "_law_letters" ["_law_thing"] 1 (spLets K)) (C_law_number : Cal P w K mg base "_law_number" ["_law_thing", "_law_most"] 1 (spNumB K)) (C_law_good : Cal P w K mg base "_law_good" ["_law_thing", "_law_rooms", "_law_signs"] 2 (spGood K)) {f : Addr} {fd : FuncData} (F : Fun K "_law_due" "_law_due" s_law_due f fd) : FnOk P w K mg base CX0 3 f fd ["_law_thing"] (spScr K) := by
  refine F.ok sc_law_due (fun vs H Q E h => ?_) (fun cdv A outer s H vs Q E hr h => ?_)
  · obtain ⟨v, d, rfl, _⟩ := h; rfl
  obtain ⟨v, d, rfl, rep, sm, q⟩ := h
  refine ⟨_, (pss_cons (ps_if (PW.pt (pw_or (pt_not (pt_val (pe_callB call_isinstD (by rfl) B.isinstance bt_isinstance (pa_cons (pv 0) (pa_cons (pe_ty (by rfl) B.tuple bt_tuple) pa_nil))))) (pw_or (pt_cmpR op_ne (pe_callB (CallR.or call_len_seq call_len_str) (by rfl) B.len bt_len (pa_cons (pv 0) pa_nil)) pe_int (nomark _)) (pw_or1 (pt_not (pt_val (pe_fn C_law_letters hr (by decide : 1 ≤ 2) (by rfl) (pa_cons (pe_ix ix_tup (pv 0) pe_int (by intro _ _; rfl)) pa_nil)))))))) (pss_one (ps_ret pe_bl)) pss_nil)
      (pss_cons (ps_if (PW.pt (pw_or (pt_cmpR op_eq (pe_callB (CallR.or call_len_seq call_len_str) (by rfl) B.len bt_len (pa_cons (pe_ix ix_tup (pv 0) pe_int (by intro _ _; rfl)) pa_nil)) pe_int (nomark _)) (pw_or (pt_cmpR op_lt (pe_callB call_len_set (by rfl) B.len bt_len (pa_cons (pe_callTy (CallR.or (call_set hr (by rfl)) (call_setS (by rfl))) (by rfl) B.set bt_set (pa_cons (pe_ix ix_tup (pv 0) pe_int (by intro _ _; rfl)) pa_nil)) pa_nil)) (pe_callB (CallR.or call_len_seq call_len_str) (by rfl) B.len bt_len (pa_cons (pe_ix ix_tup (pv 0) pe_int (by intro _ _; rfl)) pa_nil)) (nomark _)) (pw_or1 (pt_not (pt_val (pe_fn C_law_number hr (by decide : 1 ≤ 2) (by rfl) (pa_cons (pe_ix ix_tup (pv 0) pe_int (by intro _ _; rfl)) (pa_cons pe_int pa_nil))))))))) (pss_one (ps_ret pe_bl)) pss_nil)
      (pss_cons (ps_for PassesOwn.never (by rfl) (pi_list (pe_lst (pa_cons pe_int (pa_cons pe_int (pa_cons pe_int pa_nil))))) (pg_name (i := 1) sc_law_due.nd rfl (Or.inl rfl)) (pss_cons (ps_if (pt_not (pt_val (pe_callB call_isinstD (by rfl) B.isinstance bt_isinstance (pa_cons (pe_ix ix_tup (pv 0) (pv 1) (by intro _ _; rfl)) (pa_cons (pe_ty (by rfl) B.list bt_list) pa_nil))))) (pss_one (ps_ret pe_bl)) pss_nil)
      (pss_one (ps_for PassesOwn.never (by rfl) (pi_range1 (by rfl) B.range (pa_cons (pe_callB call_len_seq (by rfl) B.len bt_len (pa_cons (pe_ix ix_tup (pv 0) (pv 1) (by intro _ _; rfl)) pa_nil)) pa_nil)) (pg_name (i := 2) sc_law_due.nd rfl (Or.inl rfl)) (pss_one (ps_if (PW.pt (pw_or (pt_not (pt_val (pe_fn C_law_good hr (by decide : 2 ≤ 2) (by rfl) (pa_cons (pe_ix ix_list (pe_ix ix_tup (pv 0) (pv 1) (by intro _ _; rfl)) (pv 2) (by intro _ _; rfl)) (pa_cons (pe_ix ix_tup (pv 0) pe_int (by intro _ _; rfl)) (pa_cons (pe_ix ix_list (pe_lst (pa_cons pe_str (pa_cons (pe_ix ix_tup (pv 0) pe_int (by intro _ _; rfl)) pa_nil))) (pe_callTy call_int1 (by rfl) B.int bt_int (pa_cons (pe_cmpR op_eq (pv 1) pe_int (nomark _)) pa_nil)) (by intro _ _; rfl)) pa_nil)))))) (pw_or1 (pt_cmpR (op_inD hr.units) (pe_ix ix_list (pe_ix ix_tup (pv 0) (pv 1) (by intro _ _; rfl)) (pv 2) (by intro _ _; rfl)) (pe_slice sl_list (pe_ix ix_tup (pv 0) (pv 1) (by intro _ _; rfl)) po_none (po_some (pv 2))) rfl)))) (pss_one (ps_ret pe_bl)) pss_nil))))))
      (pss_one (ps_ret pe_bl))))), ?_⟩
  refine ⟨_, rfl, v, d, "tuple", rfl, rep, .inl rfl, _, rfl, ?_⟩
  cases d with
  | tup ds =>
    refine iteF ?_
    obtain ⟨a, xs, rfl, hq, rs⟩ := Rep.tup2 rep
    refine ⟨_, rfl, .inl ⟨a, xs, rfl, .inr hq, rfl, _, rfl, iteNd (fun c => ?_) (fun c => ?_)⟩⟩
    · have e : scrD (.tup ds) = false := scr_not (by
        show decide ((ds.length : Int) = 5) = false
        rw [rs.length]
        exact decide_eq_false fun z => c (by rw [z]))
      rw [e] at q
      exact q H (Same.refl H)
    have hl : ds.length = 5 := by have := rs.length; injection c with c; omega
    match ds, hl with
    | [d0, d1, d2, d3, d4], _ =>
      obtain ⟨v0, r0, rfl, p0, rs⟩ := rs.inv
      obtain ⟨v1, r1, rfl, p1, rs⟩ := rs.inv
      obtain ⟨v2, r2, rfl, p2, rs⟩ := rs.inv
      obtain ⟨v3, r3, rfl, p3, rs⟩ := rs.inv
      obtain ⟨v4, r4, rfl, p4, rs⟩ := rs.inv
      cases rs.inv0
      have sm' : smalls [d0, d1, d2, d3, d4] := by unfold small at sm; exact sm
      have s0 := smalls_mem sm' (show d0 ∈ _ by simp)
      have s2 := smalls_mem sm' (show d2 ∈ [d0, d1, d2, d3, d4] by simp)
      have s3 := smalls_mem sm' (show d3 ∈ [d0, d1, d2, d3, d4] by simp)
      have s4 := smalls_mem sm' (show d4 ∈ [d0, d1, d2, d3, d4] by simp)
      have noS : signsD d0 = false → scrD (.tup [d0, d1, d2, d3, d4]) = false := fun h0 => by
        cases d0 with
        | str y =>
          cases d1 with
          | int i =>
            show (signsD (.str y) && _) = false
            rw [h0]; rfl
          | _ => rfl
        | _ => rfl
      refine ⟨_, rfl, _, _, _, _, rfl, rfl, hq, rfl, v0, d0, rfl, p0, s0, fun H1 g1 => ⟨_, rfl, ?_⟩⟩
      cases h0 : wordD d0 with
      | false =>
        have e : signsD d0 = false := by
          cases d0 with
          | str y =>
            show (wordS y && _) = false
            rw [show wordS y = false from h0]; rfl
          | _ => rfl
        rw [noS e] at q
        exact iteT (q H1 g1)
      | true =>
      refine iteF ?_
      obtain ⟨gs, rfl⟩ : ∃ y, d0 = .str y := by
        cases d0 with
        | str y => exact ⟨y, rfl⟩
        | _ => cases h0
      have hgl : gs.length ≤ 4000 := by unfold small at s0; exact s0
      unfold Rep at p0
      subst p0
      refine ⟨_, rfl, _, _, _, _, rfl, rfl, Same.seqT g1 hq, rfl, .inr ⟨gs, rfl, szl (by omega), rfl, _, rfl, iteDd (fun c => ?_) (fun c => ?_)⟩⟩
      · have hn : cl gs = [] := by injection c with c; exact List.eq_nil_of_length_eq_zero (by rw [cl_length]; omega)
        have e : signsD (.str gs) = false := by
          show (wordS gs && (!decide (cl gs = []) && _)) = false
          rw [decide_eq_true hn]; simp
        rw [noS e] at q
        exact q H1 g1
      have hne : ¬ cl gs = [] := fun z => c (by rw [← cl_length, z]; rfl)
      have hle := ndist_le (cl gs).reverse
      have hnd := nodup_dec (cl gs)
      rw [List.length_reverse, cl_length] at hle
      rw [cl_length] at hnd
      refine ⟨_, rfl, _, _, _, _, rfl, rfl, Same.seqT g1 hq, rfl, .inr ⟨gs, rfl, hgl, fun sd hsd => ?_⟩⟩
      have g2 : ∀ o, Same H (upd H1 sd o) := fun o => g1.trans (same_new hsd o)
      refine ⟨_, _, rfl, upd_same, by omega, _, rfl, _, _, _, _, rfl, rfl, Same.seqT (g2 _) hq, rfl, .inr ⟨gs, rfl, szl (by omega), _, _, rfl, rfl, _, rfl, iteDd (fun c2 => ?_) (fun c2 => ?_)⟩⟩
      · have e : signsD (.str gs) = false := by
          show (wordS gs && (!decide (cl gs = []) && decide (cl gs).Nodup)) = false
          have hz : ¬ ndist (cl gs).reverse = gs.length := by omega
          rw [← hnd, decide_eq_false hz]; simp
        rw [noS e] at q
        exact q _ (g2 _)
      have hsg : signsD (.str gs) = true := by
        show (wordS gs && (!decide (cl gs = []) && decide (cl gs).Nodup)) = true
        have hz : ndist (cl gs).reverse = gs.length := by omega
        rw [show wordS gs = true from h0, ← hnd, decide_eq_true hz, decide_eq_false hne]; rfl
      refine ⟨_, rfl, _, _, _, _, rfl, rfl, Same.seqT (g2 _) hq, rfl, v1, d1, 201, rfl, Rep.mono (g2 _) _ _ p1, _, rfl, ?_⟩
      cases h1 : numD d1 201 with
      | false =>
        have e : scrD (.tup [.str gs, d1, d2, d3, d4]) = false := by
          cases d1 with
          | int i =>
            show (signsD (.str gs) && (numD (.int i) 201 && _)) = false
            rw [h1, Bool.false_and, Bool.and_false]
          | _ => rfl
        rw [e] at q
        exact iteT (q _ (g2 _))
      | true =>
      refine iteF ?_
      obtain ⟨ro, rfl⟩ : ∃ i, d1 = .int i := by
        cases d1 with
        | int i => exact ⟨i, rfl⟩
        | _ => cases h1
      unfold Rep at p1
      subst p1
      have e := scr_of (d2 := d2) (d3 := d3) (d4 := d4) hsg h1
      rw [e] at q
      clear e noS
      refine ⟨szl (by simp), fun pl hpl => ?_⟩
      have g3 := (g2 _).trans (same_new hpl (.lst [V.int 2, V.int 3, V.int 4]))
      obtain ⟨Hz, hHz⟩ : ∃ Hz, Hz = upd H1 sd (SetN sd (ndist (cl gs).reverse)) := ⟨_, rfl⟩
      rw [← hHz] at hpl g3 ⊢
      have e3 := upd_same (H := Hz) (a := pl) (o := .lst [V.int 2, V.int 3, V.int 4])
      generalize upd Hz pl (.lst [V.int 2, V.int 3, V.int 4]) = H3 at g3 e3 ⊢
      have hpL : SqL K H3 pl [V.int 2, V.int 3, V.int 4] := SqL.of e3
      have hq3 := Same.seqT g3 hq
      have p2 := Rep.mono g3 _ _ p2
      have p3 := Rep.mono g3 _ _ p3
      have p4 := Rep.mono g3 _ _ p4
      refine ⟨pl, rfl, ⟨_, hpL⟩, ?_⟩
      refine for_list (xs := [V.int 2, V.int 3, V.int 4]) (fun j σ H' => Same H3 H' ∧ (∃ x y, σ = [some (.ref a), x, y]) ∧ (1 ≤ j → okL "" ro d2 = true) ∧ (2 ≤ j → okL gs ro d3 = true) ∧ (3 ≤ j → okL "" ro d4 = true)) ⟨Same.refl _, ⟨_, _, rfl⟩, by omega, by omega, by omega⟩ (fun i σ H' _ z => z.1.seq hpL) ?_ ?_
      · rintro j x σ H4 hx ⟨g4, ⟨y1, y2, rfl⟩, dn⟩
        obtain ⟨k, dk, vk, sk, rfl, hk, rk, smk, hsk, hw, bad, good⟩ : ∃ (k : Int) (dk : D) (vk : V) (sk : Str), x = .int k ∧ atI [V.str gs, V.int ro, v2, v3, v4] k = some vk ∧ Rep K H3 dk vk ∧ small dk ∧ atI [V.str "", V.str gs] (if decide (V.int k = V.int 3) = true then 1 else 0) = some (V.str sk) ∧ wordS sk = true ∧
            (okL sk ro dk = false → (okL "" ro d2 && (okL "" ro d4 && okL gs ro d3)) = false) ∧ (okL sk ro dk = true → (1 ≤ j + 1 → okL "" ro d2 = true) ∧ (2 ≤ j + 1 → okL gs ro d3 = true) ∧ (3 ≤ j + 1 → okL "" ro d4 = true)) := by
          match j, hx with
          | 0, hx => cases hx; exact ⟨2, d2, v2, "", rfl, rfl, p2, s2, rfl, wordS_nil, fun z => by rw [z]; rfl, fun z => ⟨fun _ => z, by omega, by omega⟩⟩
          | 1, hx => cases hx; exact ⟨3, d3, v3, gs, rfl, rfl, p3, s3, rfl, h0, fun z => by rw [z]; simp, fun z => ⟨fun _ => dn.1 (by omega), fun _ => z, by omega⟩⟩
          | 2, hx => cases hx; exact ⟨4, d4, v4, "", rfl, rfl, p4, s4, rfl, wordS_nil, fun z => by rw [z]; simp, fun z => ⟨fun _ => dn.1 (by omega), fun _ => dn.2.1 (by omega), fun _ => z⟩⟩
          | n + 3, hx => cases hx
        refine ⟨_, rfl, _, rfl, _, _, _, _, rfl, rfl, Same.seqT g4 hq3, hk, vk, dk, "list", rfl, Rep.mono g4 _ _ rk, .inr (.inr (.inr (.inr rfl))), _, rfl, ?_⟩
        cases dk with
        | lst es =>
          refine iteF ?_
          obtain ⟨b, zs, rfl, hb, rb⟩ := Rep.lst2 rk
          have hes : es.length = zs.length := rb.length
          have hsmk : es.length ≤ 900 ∧ smalls es := by unfold small at smk; exact smk
          refine ⟨_, rfl, _, rfl, _, _, _, _, rfl, rfl, Same.seqT g4 hq3, hk, b, zs, rfl, .inl (g4.seq hb), _, rfl, by omega, by omega, ?_⟩
          refine for_range (n := zs.length) (fun i σ H' => Same H3 H' ∧ (∃ z, σ = [some (.ref a), some (.int k), z]) ∧ Upto sk ro es i) ⟨g4, ⟨_, rfl⟩, by unfold Upto; simp⟩ ?_ ?_
          · rintro i σ H5 hi ⟨g5, ⟨z, rfl⟩, up⟩
            have hei : i < es.length := by omega
            obtain ⟨d, hd⟩ : ∃ d, es[i]? = some d := ⟨_, List.getElem?_eq_getElem hei⟩
            obtain ⟨vi, hvi, rd⟩ := rb.get hd
            have hat : atI zs (0 + (i : Int)) = some vi := by rw [Int.zero_add]; exact atI_nat hvi
            have hq5 := Same.seqT g5 hq3
            have hb5 := g5.seq hb
            refine ⟨_, rfl, _, rfl, _, _, _, _, rfl, rfl, hq5, hk, _, rfl, _, _, _, _, rfl, rfl, hb5, hat, _, rfl, _, _, _, _, rfl, rfl, hq5, rfl, _, rfl, _, _, _, _, rfl, rfl, hq5, rfl, szl (by simp), fun p6 hp6 => ?_⟩
            have g6 := g5.trans (same_new hp6 (.lst [V.str "", V.str gs]))
            refine ⟨_, rfl, rfl, .inr ⟨_, rfl, p6, _, _, .str sk, rfl, rfl, SqL.of upd_same, hsk, vi, d, sk, ro, rfl, Rep.mono g6 _ _ rd, smalls_mem hsmk.2 (List.mem_of_getElem? hd), hw, fun H7 g7 => ⟨_, rfl, ?_⟩⟩⟩
            have g67 := g6.trans g7
            cases hg : goodD sk ro d with
            | false =>
              rw [bad (okL_bad hd hg)] at q
              exact iteT (q H7 (g3.trans g67))
            | true =>
            refine iteF ?_
            refine ⟨_, rfl, _, rfl, _, _, _, _, rfl, rfl, Same.seqT g67 hq3, hk, _, rfl, _, _, _, _, rfl, rfl, g67.seq hb, hat, _, rfl, _, rfl, _, _, _, _, rfl, rfl, Same.seqT g67 hq3, hk, _, rfl, _, rfl, b, zs, rfl, g67.seq hb, fun p8 hp8 => ?_⟩
            have g8 := g67.trans (same_new hp8 (.lst (cutV zs none (some (0 + (i : Int))))))
            have ecut : cutV zs none (some (0 + (i : Int))) = zs.take i := by
              unfold cutV
              rw [Int.zero_add, HT.sIx_nat, HT.sIx_none, Nat.min_eq_left (by omega), List.drop_zero, Nat.sub_zero]
            refine ⟨d, p8, zs.take i, es.take i, Rep.mono g8 _ _ rd, rfl, SqL.of (by rw [← ecut]; exact upd_same), Reps.mono g8 _ _ (reps_take i rb), Nat.le_trans (goods_deep up.1) (by decide), _, rfl, ?_⟩
            show if ((es.take i).any fun e => eqD e d) = true then _ else _
            refine iteB (fun c => ?_) (fun c => ?_)
            · rw [bad (okL_twice hd ((good_any hg up.1).mp c))] at q
              exact q _ (g3.trans g8)
            · exact ⟨g8, ⟨_, rfl⟩, up.next hd hg fun z => by rw [(good_any hg up.1).mpr z] at c; cases c⟩
          · rintro σ H5 ⟨g5, ⟨z, rfl⟩, up⟩
            rw [← hes] at up
            exact ⟨g5, ⟨_, _, rfl⟩, good up.all⟩
        | _ => exact iteT (by rw [bad rfl] at q; exact q H4 (g3.trans g4))
      · rintro σ H4 ⟨g4, ⟨y1, y2, rfl⟩, dn⟩
        have dn := And.intro (dn.1 (by decide)) (And.intro (dn.2.1 (by decide)) (dn.2.2 (by decide)))
        rw [dn.1, dn.2.1, dn.2.2] at q
        exact q H4 (g3.trans g4)
  | _ => exact iteT (q H (Same.refl H))

theorem sc_law_bent_part : FnScope ["_law_part", "_law_way", "_law_at", "_law_bent_here"] ["_law_part", "_law_way"] (defScope s_law_bent_part) := ⟨rfl, rfl, rfl, by decide +kernel, rfl, by decide +kernel, by decide +kernel⟩
theorem ok_law_bent_part (B : Bi mg)  {f : Addr} {fd : FuncData} (F : Fun K "_law_bent_part" "_law_bent_part" s_law_bent_part f fd) : FnOk P w K mg base CX0 1 f fd ["_law_part", "_law_way"] (spBentP K) := by
  refine F.ok sc_law_bent_part (fun vs H Q E h => ?_) (fun cdv A outer s H vs Q E hr h => ?_)
  · obtain ⟨a, ys, way, rfl, _⟩ := h; rfl
  obtain ⟨a, ys, way, rfl, hS, hl1, hl4, hpr, q⟩ := h
  refine ⟨_, (pss_cons (ps_set (i := 2) sc_law_bent_part.nd rfl (Or.inl rfl) (pe_op op_mod (pe_op op_fdiv (pv 1) pe_int) (pe_callB (CallR.or call_len_seq call_len_str) (by rfl) B.len bt_len (pa_cons (pv 0) pa_nil))))
      (pss_cons (ps_set (i := 3) sc_law_bent_part.nd rfl (Or.inl rfl) (pe_callTy call_list_of (by rfl) B.list bt_list (pa_cons (pv 0) pa_nil)))
      (pss_mid (ps_if (pt_val (pe_callB call_isinstD (by rfl) B.isinstance bt_isinstance (pa_cons (pe_ix ix_tup (pv 0) (pv 2) (by intro _ _; rfl)) (pa_cons (pe_ty (by rfl) B.str bt_str) pa_nil)))) (pss_one (ps_asg (pe_ix ix_pick (pe_lst (pa_cons (pe_op op_add_str (pe_ix ix_tup (pv 0) (pv 2) (by intro _ _; rfl)) pe_str) (pa_cons pe_str (pa_cons pe_str (pa_cons pe_non (pa_cons (pe_op op_add_str (pe_ix ix_tup (pv 0) (pv 2) (by intro _ _; rfl)) pe_str) (pa_cons pe_str (pa_cons pe_int pa_nil)))))))) (pe_op op_mod (pv 1) pe_int) (by intro _ _; rfl)) (pg_sub (pv 3) (pv 2) set_list))) (pss_one (ps_asg (pe_ix ix_pick (pe_lst (pa_cons (pe_op op_add (pe_ix ix_tup (pv 0) (pv 2) (by intro _ _; rfl)) pe_int) (pa_cons (pe_un un_neg pe_int) (pa_cons (pe_op op_add (pe_ix ix_tup (pv 0) (pv 2) (by intro _ _; rfl)) (pe_op op_pow pe_int pe_int)) (pa_cons pe_bl (pa_cons pe_non (pa_cons pe_str (pa_cons (pe_op op_sub (pe_un un_neg pe_int) (pe_ix ix_tup (pv 0) (pv 2) (by intro _ _; rfl))) pa_nil)))))))) (pe_op op_mod (pv 1) pe_int) (by intro _ _; rfl)) (pg_sub (pv 3) (pv 2) set_list))))
      (pss_mid (ps_if (pt_cmpR op_eq (pe_op op_mod (pe_op op_fdiv (pv 1) pe_int) pe_int) pe_int (nomark _)) (pss_one (ps_set (i := 3) sc_law_bent_part.nd rfl (Or.inl rfl) (pe_op op_cat (pv 3) (pe_lst (pa_cons pe_int pa_nil))))) pss_nil)
      (pss_mid (ps_if (pt_cmpR op_eq (pe_op op_mod (pe_op op_fdiv (pv 1) pe_int) pe_int) pe_int (nomark _)) (pss_one (ps_set (i := 3) sc_law_bent_part.nd rfl (Or.inl rfl) (pe_slice sl_list (pv 3) po_none (po_some (pe_un un_neg pe_int))))) pss_nil)
      (pss_cons (ps_if (pt_cmpR op_eq (pe_op op_mod (pe_op op_fdiv (pv 1) pe_int) pe_int) pe_int (nomark _)) (pss_one (ps_ret (pv 3))) pss_nil)
      (pss_one (ps_ret (pe_callTy call_tuple_of (by rfl) B.tuple bt_tuple (pa_cons (pv 3) pa_nil)))))))))), ?_⟩
  refine ⟨_, rfl, _, _, rfl, rfl, ⟨by decide, by decide⟩, _, rfl, .inl ⟨a, ys, rfl, .inr hS, _, _, rfl, rfl, (by show (0 : Int) < (ys.length : Int); omega), ?_⟩⟩
  dsimp only
  have ha0 := Int.emod_nonneg (way / 7) (show (ys.length : Int) ≠ 0 by omega)
  have ha1 := Int.emod_lt_of_pos (way / 7) (show (0 : Int) < ys.length by omega)
  generalize way / 7 % (ys.length : Int) = at_ at ha0 ha1 ⊢
  obtain ⟨n, rfl⟩ := Int.eq_ofNat_of_zero_le ha0
  have hn : n < ys.length := by omega
  refine ⟨_, rfl, a, ys, rfl, .inr hS, fun p hp0 => ?_⟩
  have hat : atI ys (n : Int) = some ys[n] := atI_nat (List.getElem?_eq_getElem hn)
  have gp := same_new hp0 (.lst ys)
  have hpp : upd H p (.lst ys) p = some (.lst ys) := upd_same
  generalize upd H p (.lst ys) = H1 at gp hpp ⊢
  have hS1 := Same.seqT gp hS
  refine ⟨fun σ H' => Same H H' ∧ ∃ zs, H' p = some (.lst zs) ∧ (∀ z ∈ zs, Fl z) ∧ zs.length = ys.length ∧ σ = [some (.ref a), some (.int way), some (.int n), some (.ref p)], ?_, ?_⟩
  · have put : ∀ {H2 : Hp} {v : V}, Same H1 H2 → Fl v → (Same H (upd H2 p (.lst (ys.set n v))) ∧ ∃ zs, upd H2 p (.lst (ys.set n v)) p = some (.lst zs) ∧ (∀ z ∈ zs, Fl z) ∧ zs.length = ys.length ∧ [some (V.ref a), some (V.int way), some (V.int (n : Int)), some (V.ref p)] = [some (V.ref a), some (V.int way), some (V.int (n : Int)), some (V.ref p)]) := fun g hv =>
      ⟨same_updN (gp.trans g) hp0, _, upd_same, fun z hz => by
        rcases mem_set hz with rfl | hz
        · exact hv
        · exact (hpr z hz).fl, by rw [List.length_set], rfl⟩
    rcases hpr ys[n] (List.getElem_mem hn) with ⟨i, ei⟩ | ⟨x, ex, hx⟩
    · rw [ei] at hat
      refine ⟨_, rfl, _, rfl, _, _, _, _, rfl, rfl, hS1, hat, .int i, .int i, "str", rfl, rep_int _, .inr (.inr (.inr (.inl rfl))), _, rfl, iteF ?_⟩
      refine ⟨_, rfl, _, rfl, _, _, _, _, rfl, rfl, hS1, hat, _, _, rfl, rfl, _, rfl, ?_⟩
      refine ⟨_, rfl, _, rfl, _, _, _, _, rfl, rfl, hS1, hat, _, _, rfl, rfl, ⟨by decide, by decide, by decide⟩, _, _, rfl, rfl, ?_⟩
      refine ⟨_, rfl, _, rfl, _, rfl, _, _, _, _, rfl, rfl, hS1, hat, _, _, rfl, rfl, szl (by simp), fun p2 hp2 => ?_⟩
      refine ⟨_, rfl, _, _, rfl, rfl, pz, p2, _, _, rfl, rfl, SqL.of upd_same, by omega, (by show way % 7 < 7; omega), Fl, ?_, fun v hv => ?_⟩
      · intro v hv
        simp only [List.mem_cons, List.not_mem_nil, or_false] at hv
        rcases hv with rfl | rfl | rfl | rfl | rfl | rfl | rfl
        · exact fl_int _
        · exact fl_int _
        · exact fl_int _
        · exact fl_bl _
        · exact fl_non
        · exact fl_str (by decide +kernel)
        · exact fl_int _
      exact ⟨_, rfl, _, rfl, p, _, _, n, rfl, rfl, same_new hp2 _ _ _ hpp, ixN_in hn, put (same_new hp2 _) hv⟩
    · rw [ex] at hat
      refine ⟨_, rfl, _, rfl, _, _, _, _, rfl, rfl, hS1, hat, .str x, .str x, "str", rfl, rep_str _, .inr (.inr (.inr (.inl rfl))), _, rfl, iteT ?_⟩
      have hA : (x ++ ("A" : Str)).length ≤ 41 := by rw [len_app]; have : ("A" : Str).length = 1 := by decide +kernel
                                                     omega
      have hQ : (x ++ ("q" : Str)).length ≤ 41 := by rw [len_app]; have : ("q" : Str).length = 1 := by decide +kernel
                                                     omega
      refine ⟨_, rfl, _, rfl, _, _, _, _, rfl, rfl, hS1, hat, _, _, rfl, rfl, szl (by have : ("A" : Str).length = 1 := by decide +kernel
                                                                                      omega), ?_⟩
      refine ⟨_, rfl, _, rfl, _, _, _, _, rfl, rfl, hS1, hat, _, _, rfl, rfl, szl (by have : ("q" : Str).length = 1 := by decide +kernel
                                                                                      omega), szl (by simp), fun p2 hp2 => ?_⟩
      refine ⟨_, rfl, _, _, rfl, rfl, pz, p2, _, _, rfl, rfl, SqL.of upd_same, by omega, (by show way % 7 < 7; omega), Fl, ?_, fun v hv => ?_⟩
      · intro v hv
        simp only [List.mem_cons, List.not_mem_nil, or_false] at hv
        rcases hv with rfl | rfl | rfl | rfl | rfl | rfl | rfl
        · exact fl_str (by omega)
        · exact fl_str (by decide +kernel)
        · exact fl_str (by decide +kernel)
        · exact fl_non
        · exact fl_str (by omega)
        · exact fl_str (by decide +kernel)
        · exact fl_int _
      exact ⟨_, rfl, _, rfl, p, _, _, n, rfl, rfl, same_new hp2 _ _ _ hpp, ixN_in hn, put (same_new hp2 _) hv⟩
  rintro _ H2 ⟨g2, zs, e2, hz, hzl, rfl⟩
  refine ⟨fun σ H' => Same H H' ∧ ∃ p' zs, H p' = none ∧ H' p' = some (.lst zs) ∧ (∀ z ∈ zs, Fl z) ∧ zs.length ≤ 5 ∧ σ = [some (.ref a), some (.int way), some (.int n), some (.ref p')], ?_, ?_⟩
  · refine ⟨_, rfl, _, _, rfl, rfl, ⟨by decide, by decide⟩, _, _, rfl, rfl, pz, rfl, _, rfl, iteDd (fun _ => ?_) (fun _ => ⟨g2, p, zs, hp0, e2, hz, by omega, rfl⟩)⟩
    refine ⟨_, rfl, szl (by simp), fun b hb => ?_⟩
    have gb := same_new hb (.lst [V.int 0])
    refine ⟨p, b, zs, _, rfl, rfl, gb _ _ e2, upd_same, szl (by rw [hzl]; simp; omega), fun p' hp' => ?_⟩
    have gq := g2.trans gb
    refine ⟨gq.trans (same_new hp' _), p', _, gq.free hp', upd_same, fun z h => ?_, by rw [List.length_append, hzl, List.length_singleton]; omega, rfl⟩
    rcases List.mem_append.mp h with h | h
    · exact hz z h
    · rw [List.mem_singleton.mp h]; exact fl_int 0
  clear hz hzl e2 g2 zs H2
  rintro _ H2 ⟨g2, p', zs, hp', e2, hz, hzl, rfl⟩
  refine ⟨fun σ H' => Same H H' ∧ ∃ p' zs, H p' = none ∧ H' p' = some (.lst zs) ∧ (∀ z ∈ zs, Fl z) ∧ zs.length ≤ 5 ∧ σ = [some (.ref a), some (.int way), some (.int n), some (.ref p')], ?_, ?_⟩
  · refine ⟨_, rfl, _, _, rfl, rfl, ⟨by decide, by decide⟩, _, _, rfl, rfl, pz, rfl, _, rfl, iteDd (fun _ => ?_) (fun _ => ⟨g2, p', zs, hp', e2, hz, hzl, rfl⟩)⟩
    refine ⟨_, rfl, _, rfl, _, rfl, p', zs, rfl, SqL.of e2, fun b hb => ?_⟩
    refine ⟨g2.trans (same_new hb _), b, _, g2.free hb, upd_same, fun z h => hz z (mem_cutV h), ?_, rfl⟩
    exact Nat.le_trans (by unfold cutV; rw [List.length_take, List.length_drop]; omega) hzl
  clear hz hzl e2 g2 zs H2 hp' p'
  rintro _ H2 ⟨g2, p', zs, hp', e2, hz, hzl, rfl⟩
  refine ⟨_, rfl, _, _, rfl, rfl, ⟨by decide, by decide⟩, _, _, rfl, rfl, pz, rfl, _, rfl, iteDd (fun _ => ?_) (fun _ => ?_)⟩
  · exact ⟨_, rfl, q p' H2 _ g2 hp' e2 ⟨zs, .inr rfl, hz, hzl⟩⟩
  · refine ⟨_, rfl, p', zs, rfl, .inl ⟨SqL.of e2, fun l hl => ?_⟩⟩
    exact q l _ _ (g2.trans (same_new hl _)) (g2.free hl) upd_same ⟨zs, .inl rfl, hz, hzl⟩

theorem sc_law_bent : FnScope ["_law_scribe_here", "_law_way", "_law_parts", "_law_where", "_law_at"] ["_law_scribe_here", "_law_way"] (defScope s_law_bent) := ⟨rfl, rfl, rfl, by decide +kernel, rfl, by decide +kernel, by decide +kernel⟩
theorem ok_law_bent (B : Bi mg) (C_law_bent_part : Cal P w K mg base "_law_bent_part" ["_law_part", "_law_way"] 1 (spBentP K)) {f : Addr} {fd : FuncData} (F : Fun K "_law_bent" "_law_bent" s_law_bent f fd) : FnOk P w K mg base CX0 2 f fd ["_law_scribe_here", "_law_way"] (spBent K) := by
  refine F.ok sc_law_bent (fun vs H Q E h => ?_) (fun cdv A outer s H vs Q E hr h => ?_)
  · obtain ⟨v, way, s, pb, ps, pe, H0, pl, rfl, _⟩ := h; rfl
  obtain ⟨v, way, s, pb, ps, pe, H0, pl, rfl, hV, g0, AP, OK, hgl, q⟩ := h
  refine ⟨_, (pss_cons (ps_set (i := 2) sc_law_bent.nd rfl (Or.inl rfl) (pe_callTy call_list_of (by rfl) B.list bt_list (pa_cons (pv 0) pa_nil)))
      (pss_cons (ps_set (i := 3) sc_law_bent.nd rfl (Or.inl rfl) (pe_op op_mod (pv 1) pe_int))
      (pss_mid (ps_if (pt_cmpR op_eq (pv 3) pe_int (nomark _)) (pss_one (ps_asg (pe_ix ix_pick (pe_lst (pa_cons pe_str (pa_cons pe_str (pa_cons pe_str (pa_cons pe_str (pa_cons pe_str (pa_cons pe_int (pa_cons pe_str pa_nil)))))))) (pe_op op_mod (pe_op op_fdiv (pv 1) pe_int) pe_int) (by intro _ _; rfl)) (pg_sub (pv 2) pe_int set_list))) pss_nil)
      (pss_mid (ps_if (pt_cmpR op_eq (pv 3) pe_int (nomark _)) (pss_one (ps_asg (pe_ix ix_pick (pe_lst (pa_cons pe_int (pa_cons pe_int (pa_cons (pe_un un_neg pe_int) (pa_cons pe_bl (pa_cons pe_non (pa_cons pe_str (pa_cons (pe_op op_sub (pe_ix ix_list (pv 2) pe_int (by intro _ _; rfl)) pe_int) pa_nil)))))))) (pe_op op_mod (pe_op op_fdiv (pv 1) pe_int) pe_int) (by intro _ _; rfl)) (pg_sub (pv 2) pe_int set_list))) pss_nil)
      (pss_mid (ps_if (pt_abs (PW.pt (pw_and (pt_cmpR op_gt (pv 3) pe_int (nomark _)) (pw_and1 (pt_cmpR op_eq (pe_op op_mod (pe_op op_fdiv (pv 1) pe_int) pe_int) pe_int (nomark _)))))) (pss_one (ps_asg (pe_callTy call_tuple_of (by rfl) B.tuple bt_tuple (pa_cons (pe_ix ix_list (pv 2) (pv 3) (by intro _ _; rfl)) pa_nil)) (pg_sub (pv 2) (pv 3) set_list))) (pss_one (ps_if (pt_abs (PW.pt (pw_and (pt_cmpR op_gt (pv 3) pe_int (nomark _)) (pw_and1 (pt_cmpR op_eq (pe_op op_mod (pe_op op_fdiv (pv 1) pe_int) pe_int) pe_int (nomark _)))))) (pss_one (ps_asg (pe_ix ix_pick (pe_lst (pa_cons pe_non (pa_cons pe_int (pa_cons pe_str (pa_cons pe_bl (pa_cons (pe_tup pa_nil) pa_nil)))))) (pe_op op_mod (pe_op op_fdiv (pv 1) pe_int) pe_int) (by intro _ _; rfl)) (pg_sub (pv 2) (pv 3) set_list))) (pss_one (ps_if (pt_abs (PW.pt (pw_and (pt_cmpR op_gt (pv 3) pe_int (nomark _)) (pw_and1 (pt_cmpR op_gt (pe_callB call_len_seq (by rfl) B.len bt_len (pa_cons (pe_ix ix_list (pv 2) (pv 3) (by intro _ _; rfl)) pa_nil)) pe_int (nomark _)))))) (pss_cons (ps_set (i := 4) sc_law_bent.nd rfl (Or.inl rfl) (pe_op op_mod (pe_op op_fdiv (pv 1) pe_int) (pe_callB call_len_seq (by rfl) B.len bt_len (pa_cons (pe_ix ix_list (pv 2) (pv 3) (by intro _ _; rfl)) pa_nil))))
      (pss_one (ps_if (pt_cmpR op_eq (pe_op op_mod (pe_op op_fdiv (pv 1) pe_int) pe_int) pe_int (nomark _)) (pss_one (ps_asg (pe_op op_cat (pe_ix ix_list (pv 2) (pv 3) (by intro _ _; rfl)) (pe_lst (pa_cons (pe_ix ix_list (pe_ix ix_list (pv 2) (pv 3) (by intro _ _; rfl)) (pv 4) (by intro _ _; rfl)) pa_nil))) (pg_sub (pv 2) (pv 3) set_list))) (pss_one (ps_if (pt_cmpR op_eq (pe_op op_mod (pe_op op_fdiv (pv 1) pe_int) pe_int) pe_int (nomark _)) (pss_one (ps_expr (pe_bm PySem.F.plainAttrs_list PySem.F.slot_list_insert PySem.F.type_list_insert mt_insert (pe_ix ix_list (pv 2) (pv 3) (by intro _ _; rfl)) (pa_cons (pv 4) (pa_cons (pe_ix ix_pick (pe_lst (pa_cons pe_non (pa_cons pe_int (pa_cons pe_str (pa_cons (pe_lst (pa_cons pe_int (pa_cons pe_str pa_nil))) (pa_cons (pe_tup pa_nil) (pa_cons pe_bl pa_nil))))))) (pe_op op_mod (pe_op op_fdiv (pv 1) pe_int) pe_int) (by intro _ _; rfl)) pa_nil))))) (pss_one (ps_asg (pe_fn C_law_bent_part hr (by decide : 1 ≤ 1) (by rfl) (pa_cons (pe_ix ix_list (pe_ix ix_list (pv 2) (pv 3) (by intro _ _; rfl)) (pv 4) (by intro _ _; rfl)) (pa_cons (pe_op op_fdiv (pv 1) pe_int) pa_nil))) (pg_sub (pe_ix ix_list (pv 2) (pv 3) (by intro _ _; rfl)) (pv 4) set_list)))))))) pss_nil)))))
      (pss_mid (ps_if (pt_cmpR op_eq (pe_op op_mod (pe_op op_fdiv (pv 1) pe_int) pe_int) pe_int (nomark _)) (pss_one (ps_expr (pe_bm PySem.F.plainAttrs_list PySem.F.slot_list_append PySem.F.type_list_append mt_append (pv 2) (pa_cons pe_int pa_nil)))) pss_nil)
      (pss_one (ps_ret (pe_callTy call_tuple_of (by rfl) B.tuple bt_tuple (pa_cons (pv 2) pa_nil)))))))))), ?_⟩
  obtain ⟨a, xb, xs, xe, rfl, h1, h2, h3, h4, h5, h6, h7⟩ := hV
  have T : Three K H pb ps pe xb xs xe := ⟨⟨h2, by rw [← h5.length]; exact OK.lb, paired_all h5 fun m hm v => part_mk (OK.mb m hm).2.2.1⟩, ⟨h3, by rw [← h6.length]; exact OK.ls, paired_all h6 fun t ht v => part_st (by obtain ⟨c, _, e⟩ := (OK.ms t ht).2.2.1; rw [e, one_len]; decide) (OK.ms t ht).2.2.2.1.1⟩, ⟨h4, by rw [← h7.length]; exact OK.le, paired_all h7 fun m hm v => part_mk (OK.me m hm).2.2.1⟩⟩
  clear h2 h3 h4 h5 h6 h7
  refine ⟨_, rfl, a, _, rfl, .inr h1, fun pp hpp => ?_⟩
  have hpp0 : H0 pp = none := g0.free hpp
  have e0 : upd H pp (.lst [V.str s.signs, V.int s.rooms, .ref pb, .ref ps, .ref pe]) pp = some (.lst (orig s.signs s.rooms pb ps pe)) := upd_same
  have gI : Same H (upd H pp (.lst [V.str s.signs, V.int s.rooms, .ref pb, .ref ps, .ref pe])) := same_new hpp _
  generalize upd H pp (.lst [V.str s.signs, V.int s.rooms, .ref pb, .ref ps, .ref pe]) = H1 at e0 gI ⊢
  refine ⟨_, rfl, _, _, rfl, rfl, pz, ?_⟩
  dsimp only
  have w0 : 0 ≤ way % 5 := by omega
  have w5 : way % 5 < 5 := by omega
  generalize way % 5 = wh at w0 w5 ⊢
  generalize s.signs = g at hgl e0 ⊢
  generalize s.rooms = r at e0 ⊢
  refine ⟨fun σ H' => ∃ Hn ys, Hn pp = none ∧ Same H0 Hn ∧ Same Hn H' ∧ Three K Hn pb ps pe xb xs xe ∧ H' pp = some (.lst ys) ∧ ys.length = 5 ∧ σ = [some (.ref a), some (.int way), some (.ref pp), some (.int wh), none] ∧ (ys = orig g r pb ps pe ∨ (wh = 0 ∧ ∀ y ∈ ys, AnyV K Hn y)), ?_, ?_⟩
  · refine ⟨_, rfl, rfl, _, rfl, iteDd (fun c => ?_) (fun c => ⟨H, _, hpp, g0, gI, T, e0, rfl, rfl, .inl rfl⟩)⟩
    refine ⟨szl (by simp), fun p2 hp2 => ⟨_, rfl, _, _, rfl, rfl, ⟨by decide, by decide⟩, _, _, rfl, rfl, pz, p2, _, _, rfl, rfl, SqL.of upd_same, by omega, (by show way / 5 % 7 < 7; omega), Fl, ?_, fun v hv => ?_⟩⟩
    · intro v hv
      simp only [List.mem_cons, List.not_mem_nil, or_false] at hv
      rcases hv with rfl | rfl | rfl | rfl | rfl | rfl | rfl
      · exact fl_str (by decide +kernel)
      · exact fl_str (by decide +kernel)
      · exact fl_str (by decide +kernel)
      · exact fl_str (by decide +kernel)
      · exact fl_str (by decide +kernel)
      · exact fl_int _
      · exact fl_str (by decide +kernel)
    refine ⟨_, rfl, pp, _, _, 0, rfl, rfl, same_new hp2 _ _ _ e0, rfl, H, _, hpp, g0, same_updN (gI.trans (same_new hp2 _)) hpp, T, upd_same, rfl, rfl, .inr ⟨vint.mp c, fun y hy => ?_⟩⟩
    rcases mem_set hy with rfl | hy
    · exact hv.any
    · exact orig_any hgl T y hy
  rintro _ H2 ⟨Hn, ys, n1, n2, n3, n4, n5, n6, rfl, n7⟩
  clear T gI e0 hpp
  refine ⟨fun σ H' => ∃ Hn ys, Hn pp = none ∧ Same H0 Hn ∧ Same Hn H' ∧ Three K Hn pb ps pe xb xs xe ∧ H' pp = some (.lst ys) ∧ ys.length = 5 ∧ σ = [some (.ref a), some (.int way), some (.ref pp), some (.int wh), none] ∧ (ys = orig g r pb ps pe ∨ (wh ≤ 1 ∧ ∀ y ∈ ys, AnyV K Hn y)), ?_, ?_⟩
  · refine ⟨_, rfl, rfl, _, rfl, iteDd (fun c => ?_) (fun c => ⟨Hn, ys, n1, n2, n3, n4, n5, n6, rfl, n7.imp id fun z => ⟨by omega, z.2⟩⟩)⟩
    have c := vint.mp c
    have ey : ys = orig g r pb ps pe := by rcases n7 with z | z; exact z; omega
    subst ey
    refine ⟨_, rfl, _, rfl, _, _, _, _, rfl, rfl, SqL.of n5, rfl, _, _, rfl, rfl, szl (by simp), fun p2 hp2 => ⟨_, rfl, _, _, rfl, rfl, ⟨by decide, by decide⟩, _, _, rfl, rfl, pz, p2, _, _, rfl, rfl, SqL.of upd_same, by omega, (by show way / 5 % 7 < 7; omega), Fl, ?_, fun v hv => ?_⟩⟩
    · intro v hv
      simp only [List.mem_cons, List.not_mem_nil, or_false] at hv
      rcases hv with rfl | rfl | rfl | rfl | rfl | rfl | rfl
      · exact fl_int _
      · exact fl_int _
      · exact fl_int _
      · exact fl_bl _
      · exact fl_non
      · exact fl_str (by decide +kernel)
      · exact fl_int _
    refine ⟨_, rfl, pp, _, _, 1, rfl, rfl, same_new hp2 _ _ _ n5, rfl, Hn, _, n1, n2, same_updN (n3.trans (same_new hp2 _)) n1, n4, upd_same, rfl, rfl, .inr ⟨by omega, fun y hy => ?_⟩⟩
    rcases mem_set hy with rfl | hy
    · exact hv.any
    · exact orig_any hgl n4 y hy
  clear n1 n2 n3 n4 n5 n6 n7 Hn ys
  rintro _ H3 ⟨Hn, ys, n1, n2, n3, n4, n5, n6, rfl, n7⟩
  refine ⟨fun σ H' => ∃ Hn ys x4, Hn pp = none ∧ Same H0 Hn ∧ Same Hn H' ∧ H' pp = some (.lst ys) ∧ ys.length = 5 ∧ σ = [some (.ref a), some (.int way), some (.ref pp), some (.int wh), x4] ∧ (∀ y ∈ ys, AnyV K Hn y), ?_, ?_⟩
  · have all : ∀ y ∈ ys, AnyV K Hn y := by
      rcases n7 with rfl | z
      · exact orig_any hgl n4
      · exact z.2
    -- the last form of a change of one part
    have put : ∀ {H4 A : Hp} {v : V} {j : Nat} {x4 : Option V}, A pp = none → Same Hn A → Same A H4 → AnyV K A v → ∃ Hn ys' x4', Hn pp = none ∧ Same H0 Hn ∧ Same Hn (upd H4 pp (.lst (ys.set j v))) ∧ upd H4 pp (.lst (ys.set j v)) pp = some (.lst ys') ∧ ys'.length = 5 ∧ [some (V.ref a), some (V.int way), some (V.ref pp), some (V.int wh), x4] = [some (V.ref a), some (V.int way), some (V.ref pp), some (V.int wh), x4'] ∧ (∀ y ∈ ys', AnyV K Hn y) := fun {H4 A v j x4} a1 a2 a3 a4 =>
      ⟨A, _, x4, a1, n2.trans a2, same_updN a3 a1, upd_same, by rw [List.length_set]; exact n6, rfl, fun y hy => by
        rcases mem_set hy with rfl | hy
        · exact a4
        · exact (all y hy).mono a2⟩
    refine ⟨fun b H' => H3 = H' ∧ (b = true → 1 < wh), ?_, ?_⟩
    · refine ⟨_, rfl, _, _, rfl, rfl, _, rfl, iteDd (fun c => ?_) (fun _ => ⟨rfl, fun z => nomatch z⟩)⟩
      exact ⟨_, rfl, _, _, rfl, rfl, ⟨by decide, by decide⟩, _, _, rfl, rfl, pz, rfl, _, rfl, rfl, fun _ => c⟩
    rintro b _ ⟨rfl, hb⟩
    refine iteB (fun hbt => ?_) (fun _ => ?_)
    · have c := hb hbt
      have ey : ys = orig g r pb ps pe := by rcases n7 with z | z; exact z; omega
      subst ey
      obtain ⟨j, px, zs, rfl, hj, hpx, hL, hx0, fr⟩ := orig_at (r := r) hgl AP n4 c w5
      refine ⟨_, rfl, _, rfl, _, _, _, _, rfl, rfl, SqL.of n5, atI_nat hpx, px, zs, rfl, .inl ⟨SqL.of (n3 _ _ hL.1), fun l hl => ?_⟩⟩
      have hln : Hn l = none := n3.free hl
      have hlp : pp ≠ l := ne_of_none n5 hl
      refine ⟨_, rfl, _, rfl, pp, _, _, j, rfl, rfl, same_new hl _ _ _ n5, ixN_in hj, put (A := upd Hn l (.tup zs)) (by rw [upd_ne hlp]; exact n1) (same_new hln _) (same_both n3 _ _) (any_tup (SqT.of upd_same) fun z hz => ((hL.2.2 z hz).any).mono (same_new hln _))⟩
    refine ⟨fun b H' => H3 = H' ∧ (b = true → 1 < wh), ?_, ?_⟩
    · refine ⟨_, rfl, _, _, rfl, rfl, _, rfl, iteDd (fun c => ?_) (fun _ => ⟨rfl, fun z => nomatch z⟩)⟩
      exact ⟨_, rfl, _, _, rfl, rfl, ⟨by decide, by decide⟩, _, _, rfl, rfl, pz, rfl, _, rfl, rfl, fun _ => c⟩
    rintro b _ ⟨rfl, hb⟩
    refine iteB (fun hbt => ?_) (fun _ => ?_)
    · have c := hb hbt
      obtain ⟨j, hj⟩ := Int.eq_ofNat_of_zero_le w0
      have hj5 : j < ys.length := by omega
      refine ⟨by decide, fun t ht => ⟨szl (by simp), fun l hl => ?_⟩⟩
      have hln : Hn t = none := n3.free ht
      have hlp : pp ≠ t := ne_of_none n5 ht
      have gt := same_new ht (.tup [])
      refine ⟨_, rfl, _, _, rfl, rfl, ⟨by decide, by decide⟩, _, _, rfl, rfl, pz, l, _, _, rfl, rfl, SqL.of upd_same, by omega, (by show way / 25 % 5 < 5; omega), AnyV K (upd Hn t (.tup [])), ?_, fun v hv => ?_⟩
      · intro v hv
        simp only [List.mem_cons, List.not_mem_nil, or_false] at hv
        rcases hv with rfl | rfl | rfl | rfl | rfl
        · exact fl_non.any
        · exact (fl_int _).any
        · exact (fl_str (by decide +kernel)).any
        · exact (fl_bl _).any
        · exact any_nil upd_same
      refine ⟨_, rfl, _, rfl, pp, _, _, j, rfl, rfl, same_new hl _ _ _ (gt _ _ n5), by rw [hj]; exact ixN_in hj5, put (A := upd Hn t (.tup [])) (by rw [upd_ne hlp]; exact n1) (same_new hln _) ((same_both n3 _ _).trans (same_new hl _)) hv⟩
    refine ⟨fun b H' => H3 = H' ∧ (b = true → ∃ (j : Nat) (px : Addr) (zs : List V), wh = (j : Int) ∧ j < 5 ∧ ys = orig g r pb ps pe ∧ (orig g r pb ps pe)[j]? = some (.ref px) ∧ LstOk K Hn px zs ∧ H0 px = none ∧ 0 < zs.length ∧
        ∀ (H' : Hp) (ws : List V), Same Hn H' → ws.length ≤ 900 → (∀ w ∈ ws, AnyV K (upd H' px (.lst ws)) w) → ∀ y ∈ orig g r pb ps pe, AnyV K (upd H' px (.lst ws)) y), ?_, ?_⟩
    · refine ⟨_, rfl, _, _, rfl, rfl, _, rfl, iteDd (fun c => ?_) (fun _ => ⟨rfl, fun z => nomatch z⟩)⟩
      have ey : ys = orig g r pb ps pe := by
        rcases n7 with z | z
        · exact z
        · have c : 1 < wh := c
          omega
      subst ey
      obtain ⟨j, px, zs, rfl, hj, hpx, hL, hx0, fr⟩ := orig_at (r := r) hgl AP n4 c w5
      refine ⟨_, rfl, _, rfl, _, _, _, _, rfl, rfl, SqL.of n5, atI_nat hpx, px, zs, rfl, .inl (SqL.of (n3 _ _ hL.1)), _, _, rfl, rfl, _, rfl, rfl, fun z => ?_⟩
      have z := of_decide_eq_true z
      exact ⟨j, px, zs, rfl, hj, rfl, hpx, hL, hx0, by omega, fr⟩
    rintro b _ ⟨rfl, hb⟩
    refine iteB (fun hbt => ?_) (fun _ => ⟨Hn, ys, _, n1, n2, n3, n5, n6, rfl, all⟩)
    obtain ⟨j, px, zs, rfl, hj, rfl, hpx, hL, hx0, hzl, fr⟩ := hb hbt
    have hSp : SqL K H3 pp (orig g r pb ps pe) := SqL.of n5
    have hSx : SqL K H3 px zs := SqL.of (n3 _ _ hL.1)
    have hxp : px ≠ pp := fun z => by
      have h := hL.1
      rw [z, n1] at h
      cases h
    refine ⟨_, rfl, _, _, rfl, rfl, ⟨by decide, by decide⟩, _, rfl, _, rfl, _, _, _, _, rfl, rfl, hSp, atI_nat hpx, px, zs, rfl, .inl hSx, _, _, rfl, rfl, (by show (0 : Int) < (zs.length : Int); omega), ?_⟩
    dsimp only
    have ha0 := Int.emod_nonneg (way / 25) (show (zs.length : Int) ≠ 0 by omega)
    have ha1 := Int.emod_lt_of_pos (way / 25) (show (0 : Int) < zs.length by omega)
    generalize way / 25 % (zs.length : Int) = at_ at ha0 ha1 ⊢
    obtain ⟨n, rfl⟩ := Int.eq_ofNat_of_zero_le ha0
    have hn : n < zs.length := by omega
    have hz95 := hL.2.1
    have hat : atI zs (n : Int) = some zs[n] := atI_nat (List.getElem?_eq_getElem hn)
    have hzn := hL.2.2 zs[n] (List.getElem_mem hn)
    refine ⟨_, rfl, _, _, rfl, rfl, ⟨by decide, by decide⟩, _, _, rfl, rfl, pz, rfl, _, rfl, iteDd (fun _ => ?_) (fun _ => ?_)⟩
    · -- a part twice
      refine ⟨_, rfl, _, rfl, _, _, _, _, rfl, rfl, hSp, atI_nat hpx, _, rfl, _, rfl, _, _, _, _, rfl, rfl, hSp, atI_nat hpx, _, rfl, _, _, _, _, rfl, rfl, hSx, hat, szl (by simp), fun b hb => ?_⟩
      have gb := same_new hb (.lst [zs[n]])
      refine ⟨px, b, zs, _, rfl, rfl, gb _ _ (n3 _ _ hL.1), upd_same, szl (by simp; omega), fun l hl => ?_⟩
      have hl3 : H3 l = none := gb.free hl
      have hln : Hn l = none := n3.free hl3
      have hlp : pp ≠ l := ne_of_none n5 hl3
      refine ⟨_, rfl, _, rfl, pp, _, _, j, rfl, rfl, same_new hl _ _ _ (gb _ _ n5), ixN_in hj, put (A := upd Hn l (.lst (zs ++ [zs[n]]))) (by rw [upd_ne hlp]; exact n1) (same_new hln _) (same_both (n3.trans gb) _ _) (any_lst (SqL.of upd_same) (by rw [List.length_append, List.length_singleton]; omega) fun z hz => ?_)⟩
      rcases List.mem_append.mp hz with hz | hz
      · exact ((hL.2.2 z hz).any).mono (same_new hln _)
      · rw [List.mem_singleton.mp hz]; exact (hzn.any).mono (same_new hln _)
    refine ⟨_, rfl, _, _, rfl, rfl, ⟨by decide, by decide⟩, _, _, rfl, rfl, pz, rfl, _, rfl, iteDd (fun _ => ?_) (fun _ => ?_)⟩
    · -- another thing put in
      refine ⟨_, rfl, _, rfl, _, _, _, _, rfl, rfl, hSp, atI_nat hpx, .inl ⟨rfl, _, hSx⟩, _, rfl, szl (by simp), fun t0 ht0 => ⟨by decide, fun t1 ht1 => ⟨szl (by simp), fun l hl => ?_⟩⟩⟩
      have g0' := same_new ht0 (.lst [V.int 0, V.str ""])
      have g1' := same_new ht1 (.tup [])
      have h1n : Hn t0 = none := n3.free ht0
      have h2n : upd Hn t0 (.lst [V.int 0, V.str ""]) t1 = none := (same_both n3 _ _).free ht1
      have ga := (same_new h1n (.lst [V.int 0, V.str ""])).trans (same_new h2n (.tup []))
      have gb := same_both (same_both n3 t0 (.lst [V.int 0, V.str ""])) t1 (.tup [])
      have hp0 : pp ≠ t0 := ne_of_none n5 ht0
      have hp1 : pp ≠ t1 := ne_of_none (g0' _ _ n5) ht1
      have hx0' : upd Hn t0 (.lst [V.int 0, V.str ""]) t0 = some (.lst [V.int 0, V.str ""]) := upd_same
      have hlx : H3 px = some (.lst zs) := n3 _ _ hL.1
      refine ⟨_, rfl, _, _, rfl, rfl, ⟨by decide, by decide⟩, _, _, rfl, rfl, pz, l, _, _, rfl, rfl, SqL.of upd_same, by omega, (by show way / 300 % 6 < 6; omega), fun v => Fl v ∨ v = .ref t0 ∨ v = .ref t1, ?_, fun v hv => ?_⟩
      · intro v hv
        simp only [List.mem_cons, List.not_mem_nil, or_false] at hv
        rcases hv with rfl | rfl | rfl | rfl | rfl | rfl
        · exact .inl fl_non
        · exact .inl (fl_int _)
        · exact .inl (fl_str (by decide +kernel))
        · exact .inr (.inl rfl)
        · exact .inr (.inr rfl)
        · exact .inl (fl_bl _)
      have ne0 : t0 ≠ px := (ne_of_none hlx ht0).symm
      have ne1 : t1 ≠ px := (ne_of_none (g0' _ _ hlx) ht1).symm
      refine ⟨px, zs, n, v, rfl, rfl, same_new hl _ _ _ (g1' _ _ (g0' _ _ hlx)), ⟨by omega, by omega⟩, szl' (by omega), ?_⟩
      have hws : ∀ w ∈ zs.take (insAt zs.length n) ++ v :: zs.drop (insAt zs.length n), AnyV K (upd (upd (upd Hn t0 (.lst [V.int 0, V.str ""])) t1 (.tup [])) px (.lst (zs.take (insAt zs.length n) ++ v :: zs.drop (insAt zs.length n)))) w := by
        intro w hw
        have hpxA := ga _ _ hL.1
        have old : ∀ w ∈ zs, AnyV K (upd (upd (upd Hn t0 (.lst [V.int 0, V.str ""])) t1 (.tup [])) px (.lst (zs.take (insAt zs.length n) ++ v :: zs.drop (insAt zs.length n)))) w := fun w hw => any_upd hpxA (.inl (PartV.mono (Same.grow ga) (hL.2.2 w hw)))
        rcases List.mem_append.mp hw with hw | hw
        · exact old w (List.mem_of_mem_take hw)
        · rcases List.mem_cons.mp hw with rfl | hw
          · rcases hv with hv | rfl | rfl
            · exact hv.any
            · refine any_lst (vs := [V.int 0, V.str ""]) (SqL.of ?_) (by decide) fun y hy => ?_
              · rw [upd_ne ne0, upd_ne (ne_of_none hx0' h2n)]; exact upd_same
              · simp only [List.mem_cons, List.not_mem_nil, or_false] at hy
                rcases hy with rfl | rfl
                · exact (fl_int _).any
                · exact (fl_str (by decide +kernel)).any
            · exact any_nil (by rw [upd_ne ne1]; exact upd_same)
          · exact old w (List.mem_of_mem_drop hw)
      refine ⟨_, _, _, ?_, ?_, same_both (gb.trans (same_new hl _)) px _, ?_, n6, rfl, fr _ _ ga ?_ hws⟩
      · rw [upd_ne hxp.symm, upd_ne hp1, upd_ne hp0]; exact n1
      · exact same_updN (n2.trans ga) hx0
      · rw [upd_ne hxp.symm]; exact same_new hl _ _ _ (g1' _ _ (g0' _ _ n5))
      · rw [List.length_append, List.length_cons, List.length_take, List.length_drop]; omega
    · -- a part bent
      obtain ⟨b, us, eb, hb, hu1, hu4, hup⟩ := PartV.mono (Same.grow n3) hzn
      rw [eb] at hat
      refine ⟨_, rfl, _, rfl, _, _, _, _, rfl, rfl, hSp, atI_nat hpx, _, rfl, _, _, _, _, rfl, rfl, hSx, hat, _, rfl, _, _, rfl, rfl, ⟨by decide, by decide⟩, b, us, _, rfl, hb, hu1, hu4, hup, fun l H4 o g4 hl hlo ho => ?_⟩
      have hln : Hn l = none := n3.free hl
      have hlp : pp ≠ l := ne_of_none n5 hl
      have hlx : l ≠ px := (ne_of_none (n3 _ _ hL.1) hl).symm
      have ga := same_new hln o
      have gb : Same (upd Hn l o) H4 := same_in (n3.trans g4) hlo
      refine ⟨_, rfl, _, rfl, _, _, _, _, rfl, rfl, SqL.of (g4 _ _ n5), atI_nat hpx, _, rfl, px, zs, _, n, rfl, rfl, g4 _ _ (n3 _ _ hL.1), ixN_in hn, ?_⟩
      have hws : ∀ w ∈ zs.set n (.ref l), AnyV K (upd (upd Hn l o) px (.lst (zs.set n (.ref l)))) w := by
        intro w hw
        rcases mem_set hw with rfl | hw
        · exact ho.any (by rw [upd_ne hlx]; exact upd_same)
        · exact any_upd (ga _ _ hL.1) (.inl (PartV.mono (Same.grow ga) (hL.2.2 w hw)))
      refine ⟨_, _, _, ?_, ?_, same_both gb px _, ?_, n6, rfl, fr _ _ ga ?_ hws⟩
      · rw [upd_ne hxp.symm, upd_ne hlp]; exact n1
      · exact same_updN (n2.trans ga) hx0
      · rw [upd_ne hxp.symm]; exact g4 _ _ n5
      · rw [List.length_set]; omega
  clear n1 n2 n3 n4 n5 n6 n7 Hn ys
  rintro _ H4 ⟨Hn, ys, x4, n1, n2, n3, n5, n6, rfl, all⟩
  refine ⟨fun σ H' => ∃ ys, Same H0 H' ∧ H' pp = some (.lst ys) ∧ σ = [some (.ref a), some (.int way), some (.ref pp), some (.int wh), x4] ∧ (∀ y ∈ ys, AnyV K H' y), ?_, ?_⟩
  · refine ⟨_, rfl, _, _, rfl, rfl, ⟨by decide, by decide⟩, _, _, rfl, rfl, pz, rfl, _, rfl, iteDd (fun _ => ?_) (fun _ => ⟨ys, n2.trans n3, n5, rfl, fun y hy => (all y hy).mono n3⟩)⟩
    refine ⟨_, rfl, .inl ⟨rfl, _, SqL.of n5⟩, pp, ys, .int 0, rfl, rfl, n5, szl' (by omega), ?_⟩
    have g5 : Same Hn (upd H4 pp (.lst (ys ++ [V.int 0]))) := same_updN n3 n1
    refine ⟨_, n2.trans g5, upd_same, rfl, fun y hy => ?_⟩
    rcases List.mem_append.mp hy with hy | hy
    · exact (all y hy).mono g5
    · rw [List.mem_singleton.mp hy]; exact (fl_int 0).any
  rintro _ H5 ⟨ys, g5, e5, rfl, all⟩
  refine ⟨_, rfl, pp, ys, rfl, .inl ⟨SqL.of e5, fun l hl => ?_⟩⟩
  exact q _ _ (g5.trans (same_new hl _)) (any_tup (SqT.of upd_same) fun y hy => (all y hy).mono (same_new hl _))

theorem sc_law : FnScope ["_law_script", "_law_scribe_here", "_law_some", "_law_thing", "_law_found"] ["_law_script"] (defScope s_law) := ⟨rfl, rfl, rfl, by decide +kernel, rfl, by decide +kernel, by decide +kernel⟩
theorem ok_law (B : Bi mg) (C_law_scribe : Cal P w K mg base "_law_scribe" ["_law_script", "_law_at", "_law_plain"] 3 (spScribeX K)) (C_law_bent : Cal P w K mg base "_law_bent" ["_law_scribe_here", "_law_way"] 2 (spBent K)) (C_is_scribe : Cal P w K mg base "is_scribe" ["thing"] 4 (spScr K)) (C_law_copied : Cal P w K mg base "_law_copied" ["_law_scribe_here"] 1 (spCopied K)) (C_law_cell_at : Cal P w K mg base "_law_cell_at" ["_law_script", "_law_k"] 1 (spCell K)) (C_law_due : Cal P w K mg base "_law_due" ["_law_thing"] 3 (spScr K)) {f : Addr} {fd : FuncData} (F : Fun K "law" "law" s_law f fd) : FnOk P w K mg base CX0 5 f fd ["_law_script"] (spLaw K) := by
  refine F.ok sc_law (fun vs H Q E h => ?_) (fun cdv A outer s H vs Q E hr h => ?_)
  · obtain ⟨a, ns, rfl, _⟩ := h; rfl
  obtain ⟨a, ns, rfl, hS, h63, q⟩ := h
  refine' ⟨_, ?pp, ?zz⟩
  case pp =>
    refine' (pss_cons (ps_set (i := 1) sc_law.nd rfl (Or.inl rfl) (pe_fn C_law_scribe hr (by decide : 3 ≤ 4) (by rfl) (pa_cons (pv 0) (pa_cons pe_int (pa_cons (pe_cmpR op_eq (pe_op op_mod (pe_fn C_law_cell_at hr (by decide : 1 ≤ 4) (by rfl) (pa_cons (pv 0) (pa_cons pe_int pa_nil))) pe_int) pe_int (nomark _)) pa_nil)))))
          (pss_cons (ps_set (i := 2) sc_law.nd rfl (Or.inl rfl) (pe_lst (pa_cons (pv 1) (pa_cons (pe_fn C_law_bent hr (by decide : 2 ≤ 4) (by rfl) (pa_cons (pe_fn C_law_copied hr (by decide : 1 ≤ 4) (by rfl) (pa_cons (pv 1) pa_nil)) (pa_cons (pe_op op_fdiv (pe_fn C_law_cell_at hr (by decide : 1 ≤ 4) (by rfl) (pa_cons (pv 0) (pa_cons pe_int pa_nil))) pe_int) pa_nil))) (pa_cons (pe_callTy call_list_of (by rfl) B.list bt_list (pa_cons (pv 1) pa_nil)) (pa_cons (pe_slice sl_tup (pv 1) po_none (po_some pe_int)) (pa_cons pe_non (pa_cons (pe_tup pa_nil) pa_nil))))))))
          (pss_cons (ps_set (i := 2) sc_law.nd rfl (Or.inl rfl) (pe_op op_cat (pv 2) ?hole1))
          (pss_cons (ps_for PassesOwn.never (by rfl) (pi_list (pv 2)) (pg_name (i := 3) sc_law.nd rfl (Or.inl rfl)) (pss_cons (ps_set (i := 4) sc_law.nd rfl (Or.inl rfl) (pe_fn C_is_scribe hr (by decide : 4 ≤ 4) (by rfl) (pa_cons (pv 3) pa_nil)))
          (pss_one (ps_if (PW.pt (pw_or (pt_not (pt_val (pe_callB call_isinst (by rfl) B.isinstance bt_isinstance (pa_cons (pv 4) (pa_cons (pe_ty (by rfl) B.bool bt_bool) pa_nil))))) (pw_or1 (pt_cmpR op_ne (pv 4) (pe_fn C_law_due hr (by decide : 3 ≤ 4) (by rfl) (pa_cons (pv 3) pa_nil)) (nomark _))))) (pss_one (ps_ret pe_bl)) pss_nil))))
          (pss_one (ps_ret (pe_cmpR (op_eqD hr.units) (pv 1) (pe_fn C_law_scribe hr (by decide : 3 ≤ 4) (by rfl) (pa_cons (pv 0) (pa_cons pe_int (pa_cons (pe_cmpR op_eq (pe_op op_mod (pe_fn C_law_cell_at hr (by decide : 1 ≤ 4) (by rfl) (pa_cons (pv 0) (pa_cons pe_int pa_nil))) pe_int) pe_int (nomark _)) pa_nil)))) (nomark _))))))))
    case hole1 =>
      refine' th_all ?a ?b ?c
      case a => exact th_a
      case b =>
        refine' th_b ?d ?e ?f
        case d => exact th_m
        case e => exact th_s
        case f => exact th_m
      case c =>
        refine' pe_lst ?d
        case d =>
          refine' pa_cons ?e ?f
          case e => exact pv 1
          case f => exact pa_nil
  obtain ⟨plb, hpl⟩ : ∃ b, b = decide (V.int (cellAt ns 40 % 2) = V.int 1) := ⟨_, rfl⟩
  refine ⟨_, rfl, _, rfl, a, ns, 40, rfl, hS, by decide, _, _, rfl, rfl, pz, rfl, ?_⟩
  rw [← hpl]
  refine ⟨a, ns, 0, plb, rfl, hS, h63, by decide, by decide, fun v1 H1 pb1 ps1 pe1 ⟨g1, hV1, ok1, _, _, _, hgl, _⟩ => ?_⟩
  obtain ⟨av, rfl, hT, hAll⟩ := scv_parts hV1 ok1 hgl
  have A1 := any_tup hT hAll
  refine ⟨_, rfl, _, rfl, _, _, pb1, ps1, pe1, rfl, hV1, fun v2 H2 pb2 ps2 pe2 g2 hN2 ap2 => ?_⟩
  refine ⟨_, rfl, a, ns, 41, rfl, (g1.trans g2).seq hS, by decide, _, _, rfl, rfl, ⟨by decide, by decide⟩, v2, _, _, pb2, ps2, pe2, H1, plb, rfl, hN2, g2, ap2, ok1, hgl, fun v3 H3 g3 A3 => ?_⟩
  clear g2 hN2 ap2
  refine ⟨_, rfl, av, _, rfl, .inr (Same.seqT g3 hT), fun l1 hl1 => ?_⟩
  have gl1 := same_new hl1 (.lst (orig (genS ns 0 plb).signs (genS ns 0 plb).rooms pb1 ps1 pe1))
  have el1 := upd_same (H := H3) (a := l1) (o := .lst (orig (genS ns 0 plb).signs (genS ns 0 plb).rooms pb1 ps1 pe1))
  generalize upd H3 l1 (.lst (orig (genS ns 0 plb).signs (genS ns 0 plb).rooms pb1 ps1 pe1)) = H4 at gl1 el1 ⊢
  
  refine ⟨_, rfl, _, rfl, av, _, rfl, Same.seqT (g3.trans gl1) hT, (show ¬ (0 = 0 ∧ 4 = 5) by decide), fun l2 hl2 => ?_⟩
  have gl2 := same_new hl2 (.tup (cutV (orig (genS ns 0 plb).signs (genS ns 0 plb).rooms pb1 ps1 pe1) none (some 4)))
  have el2 := upd_same (H := H4) (a := l2) (o := .tup (cutV (orig (genS ns 0 plb).signs (genS ns 0 plb).rooms pb1 ps1 pe1) none (some 4)))
  generalize upd H4 l2 (.tup (cutV (orig (genS ns 0 plb).signs (genS ns 0 plb).rooms pb1 ps1 pe1) none (some 4))) = H5 at gl2 el2 ⊢
  
  refine ⟨by decide, fun l3 hl3 => ?_⟩
  have gl3 := same_new hl3 (.tup [])
  have el3 := upd_same (H := H5) (a := l3) (o := .tup [])
  generalize upd H5 l3 (.tup []) = H6 at gl3 el3 ⊢
  
  refine ⟨szl (by simp), fun l4 hl4 => ?_⟩
  have gl4 := same_new hl4 (.lst [.ref av, v3, .ref l1, .ref l2, .non, .ref l3])
  have el4 := upd_same (H := H6) (a := l4) (o := .lst [.ref av, v3, .ref l1, .ref l2, .non, .ref l3])
  generalize upd H6 l4 (.lst [.ref av, v3, .ref l1, .ref l2, .non, .ref l3]) = H7 at gl4 el4 ⊢
  
  refine ⟨_, rfl, szl (by simp), fun m1 hm1 => ?_⟩
  have gm1 := same_new hm1 (.lst [])
  have em1 := upd_same (H := H7) (a := m1) (o := .lst [])
  generalize upd H7 m1 (.lst []) = H8 at gm1 em1 ⊢
  
  refine ⟨szl (by simp), fun m2 hm2 => ?_⟩
  have gm2 := same_new hm2 (.lst [])
  have em2 := upd_same (H := H8) (a := m2) (o := .lst [])
  generalize upd H8 m2 (.lst []) = H9 at gm2 em2 ⊢
  
  refine ⟨szl (by simp), fun m3 hm3 => ?_⟩
  have gm3 := same_new hm3 (.lst [])
  have em3 := upd_same (H := H9) (a := m3) (o := .lst [])
  generalize upd H9 m3 (.lst []) = H10 at gm3 em3 ⊢
  
  refine ⟨by show 5 ≤ sizeLine; decide, fun m4 hm4 => ?_⟩
  have gm4 := same_new hm4 (.tup [.str "a", .int 0, .ref m1, .ref m2, .ref m3])
  have em4 := upd_same (H := H10) (a := m4) (o := .tup [.str "a", .int 0, .ref m1, .ref m2, .ref m3])
  generalize upd H10 m4 (.tup [.str "a", .int 0, .ref m1, .ref m2, .ref m3]) = H11 at gm4 em4 ⊢
  
  refine ⟨by show 2 ≤ sizeLine; decide, fun m5 hm5 => ?_⟩
  have gm5 := same_new hm5 (.tup [.int 0, .str ""])
  have em5 := upd_same (H := H11) (a := m5) (o := .tup [.int 0, .str ""])
  generalize upd H11 m5 (.tup [.int 0, .str ""]) = H12 at gm5 em5 ⊢
  
  refine ⟨szl (by simp), fun m6 hm6 => ?_⟩
  have gm6 := same_new hm6 (.lst [.ref m5])
  have em6 := upd_same (H := H12) (a := m6) (o := .lst [.ref m5])
  generalize upd H12 m6 (.lst [.ref m5]) = H13 at gm6 em6 ⊢
  
  refine ⟨by show 4 ≤ sizeLine; decide, fun m7 hm7 => ?_⟩
  have gm7 := same_new hm7 (.tup [.int 0, .str "a", .str "", .int 0])
  have em7 := upd_same (H := H13) (a := m7) (o := .tup [.int 0, .str "a", .str "", .int 0])
  generalize upd H13 m7 (.tup [.int 0, .str "a", .str "", .int 0]) = H14 at gm7 em7 ⊢
  
  refine ⟨szl (by simp), fun m8 hm8 => ?_⟩
  have gm8 := same_new hm8 (.lst [.ref m7])
  have em8 := upd_same (H := H14) (a := m8) (o := .lst [.ref m7])
  generalize upd H14 m8 (.lst [.ref m7]) = H15 at gm8 em8 ⊢
  
  refine ⟨by show 2 ≤ sizeLine; decide, fun m9 hm9 => ?_⟩
  have gm9 := same_new hm9 (.tup [.int 0, .str ""])
  have em9 := upd_same (H := H15) (a := m9) (o := .tup [.int 0, .str ""])
  generalize upd H15 m9 (.tup [.int 0, .str ""]) = H16 at gm9 em9 ⊢
  
  refine ⟨szl (by simp), fun k1 hk1 => ?_⟩
  have gk1 := same_new hk1 (.lst [.ref m9])
  have ek1 := upd_same (H := H16) (a := k1) (o := .lst [.ref m9])
  generalize upd H16 k1 (.lst [.ref m9]) = H17 at gk1 ek1 ⊢
  
  refine ⟨by show 5 ≤ sizeLine; decide, fun k2 hk2 => ?_⟩
  have gk2 := same_new hk2 (.tup [.str "a", .int 1, .ref m6, .ref m8, .ref k1])
  have ek2 := upd_same (H := H17) (a := k2) (o := .tup [.str "a", .int 1, .ref m6, .ref m8, .ref k1])
  generalize upd H17 k2 (.tup [.str "a", .int 1, .ref m6, .ref m8, .ref k1]) = H18 at gk2 ek2 ⊢
  
  refine ⟨_, rfl, szl (by simp), fun k3 hk3 => ?_⟩
  have gk3 := same_new hk3 (.lst [.ref av])
  have ek3 := upd_same (H := H18) (a := k3) (o := .lst [.ref av])
  generalize upd H18 k3 (.lst [.ref av]) = H19 at gk3 ek3 ⊢
  
  refine ⟨szl (by simp), fun k4 hk4 => ?_⟩
  have gk4 := same_new hk4 (.lst [.ref m4, .ref k2, .int 0, .str "a", .ref k3, .bl true])
  have ek4 := upd_same (H := H19) (a := k4) (o := .lst [.ref m4, .ref k2, .int 0, .str "a", .ref k3, .bl true])
  generalize upd H19 k4 (.lst [.ref m4, .ref k2, .int 0, .str "a", .ref k3, .bl true]) = H20 at gk4 ek4 ⊢
  
  have G4 : Same H7 H20 := ((((((((((((gm1.trans gm2).trans gm3).trans gm4).trans gm5).trans gm6).trans gm7).trans gm8).trans gm9).trans gk1).trans gk2).trans gk3).trans gk4)
  have G3 : Same H3 H7 := ((gl1.trans gl2).trans gl3).trans gl4
  refine ⟨l4, k4, _, _, rfl, rfl, G4 _ _ el4, ek4, szl (by simp), fun kk hkk => ?_⟩
  have gkk := same_new hkk (.lst ([V.ref av, v3, .ref l1, .ref l2, .non, .ref l3] ++ [V.ref m4, .ref k2, .int 0, .str "a", .ref k3, .bl true]))
  have ekk := upd_same (H := H20) (a := kk) (o := .lst ([V.ref av, v3, .ref l1, .ref l2, .non, .ref l3] ++ [V.ref m4, .ref k2, .int 0, .str "a", .ref k3, .bl true]))
  generalize upd H20 kk (.lst ([V.ref av, v3, .ref l1, .ref l2, .non, .ref l3] ++ [V.ref m4, .ref k2, .int 0, .str "a", .ref k3, .bl true])) = H21 at gkk ekk ⊢
  have GG := (g3.trans G3).trans (G4.trans gkk)
  have fA : Fl (.str "a") := fl_str (by decide +kernel)
  have fN : Fl (.str "") := fl_str (by decide +kernel)
  have f0 : Fl (.int 0) := fl_int 0
  have two : ∀ {Ha : Hp} {p : Addr}, Ha p = some (.tup [V.int 0, V.str ""]) → AnyV K Ha (.ref p) := fun e => any_tup (SqT.of e) fun y hy => by
    simp only [List.mem_cons, List.not_mem_nil, or_false] at hy
    rcases hy with rfl | rfl
    · exact f0.any
    · exact fN.any
  have lone : ∀ {Ha : Hp} {p : Addr} {v : V}, Ha p = some (.lst [v]) → AnyV K Ha v → AnyV K Ha (.ref p) := fun e h => any_lst (SqL.of e) (by simp) fun y hy => by rw [List.mem_singleton.mp hy]; exact h
  have nul : ∀ {Ha : Hp} {p : Addr}, Ha p = some (.lst []) → AnyV K Ha (.ref p) := fun e => any_lst (SqL.of e) (by simp) fun y hy => nomatch hy
  have a18 := ((gk2.trans gk3).trans gk4).trans gkk
  have a17 := gk1.trans a18
  have all : ∀ x ∈ ([V.ref av, v3, .ref l1, .ref l2, .non, .ref l3] ++ [V.ref m4, .ref k2, .int 0, .str "a", .ref k3, .bl true]), AnyV K H21 x := by
    intro x hx
    have s3 := G3.trans (G4.trans gkk)
    have s4 := (((gl2.trans gl3).trans gl4).trans (G4.trans gkk))
    have s5 := ((gl3.trans gl4).trans (G4.trans gkk))
    have s6 := gl4.trans (G4.trans gkk)
    have t12 := ((((gm6.trans gm7).trans gm8).trans gm9).trans a17)
    have t13 := (((gm7.trans gm8).trans gm9).trans a17)
    have t14 := ((gm8.trans gm9).trans a17)
    have t15 := gm9.trans a17
    have t11 := gm5.trans t12
    have t10 := gm4.trans t11
    have t9 := gm3.trans t10
    have t8 := gm2.trans t9
    have a19 := (gk3.trans gk4).trans gkk
    have a20 := gk4.trans gkk
    simp only [List.cons_append, List.nil_append, List.mem_cons, List.not_mem_nil, or_false] at hx
    rcases hx with rfl | rfl | rfl | rfl | rfl | rfl | rfl | rfl | rfl | rfl | rfl | rfl
    · exact A1.mono GG
    · exact A3.mono s3
    · exact any_lst (SqL.of (s4 _ _ el1)) (by simp [orig]) fun y hy => (hAll y hy).mono GG
    · exact any_tup (SqT.of (s5 _ _ el2)) fun y hy => (hAll y (mem_cutV hy)).mono GG
    · exact fl_non.any
    · exact any_nil (s6 _ _ el3)
    · refine any_tup (SqT.of (t11 _ _ em4)) fun y hy => ?_
      simp only [List.mem_cons, List.not_mem_nil, or_false] at hy
      rcases hy with rfl | rfl | rfl | rfl | rfl
      · exact fA.any
      · exact f0.any
      · exact nul (t8 _ _ em1)
      · exact nul (t9 _ _ em2)
      · exact nul (t10 _ _ em3)
    · refine any_tup (SqT.of (a19 _ _ ek2)) fun y hy => ?_
      simp only [List.mem_cons, List.not_mem_nil, or_false] at hy
      rcases hy with rfl | rfl | rfl | rfl | rfl
      · exact fA.any
      · exact (fl_int 1).any
      · exact lone (t13 _ _ em6) (two (t12 _ _ em5))
      · refine lone (t15 _ _ em8) (any_tup (SqT.of (t14 _ _ em7)) fun y hy => ?_)
        simp only [List.mem_cons, List.not_mem_nil, or_false] at hy
        rcases hy with rfl | rfl | rfl | rfl
        · exact f0.any
        · exact fA.any
        · exact fN.any
        · exact f0.any
      · exact lone (a18 _ _ ek1) (two (a17 _ _ em9))
    · exact f0.any
    · exact fA.any
    · exact lone (a20 _ _ ek3) (A1.mono GG)
    · exact (fl_bl _).any
  generalize ([V.ref av, v3, .ref l1, .ref l2, .non, .ref l3] ++ [V.ref m4, .ref k2, .int 0, .str "a", .ref k3, .bl true]) = vs at all ekk ⊢
  have hL : SqL K H21 kk vs := SqL.of ekk
  have hV21 := hV1.mono GG
  have hS21 := (g1.trans GG).seq hS
  refine ⟨_, rfl, kk, rfl, ⟨_, hL⟩, ?_⟩
  refine for_list (xs := vs) (fun i σ H' => Same H21 H' ∧ ∃ x3 x4, σ = [some (.ref a), some (.ref av), some (.ref kk), x3, x4]) ⟨Same.refl _, _, _, rfl⟩ (fun i σ H' _ z => z.1.seq hL) ?_ ?_
  · rintro i x σ H5 hx ⟨g5, x3, x4, rfl⟩
    obtain ⟨d, sd, rd⟩ := all x (List.mem_of_getElem? hx)
    refine ⟨_, rfl, x, d, rfl, Rep.mono g5 _ _ rd, sd, fun H6 g6 => ?_⟩
    refine ⟨_, rfl, _, "bool", _, _, rfl, TyOf.bl _, is_bool, _, rfl, iteF ?_⟩
    refine ⟨_, rfl, _, rfl, x, d, rfl, Rep.mono (g5.trans g6) _ _ rd, sd, fun H7 g7 => ⟨rfl, _, rfl, iteNd (fun c => absurd rfl c) (fun _ => ?_)⟩⟩
    exact ⟨(g5.trans g6).trans g7, _, _, rfl⟩
  · rintro σ H5 ⟨g5, x3, x4, rfl⟩
    refine ⟨_, rfl, _, rfl, _, rfl, a, ns, 40, rfl, g5.seq hS21, by decide, _, _, rfl, rfl, pz, rfl, ?_⟩
    rw [← hpl]
    refine ⟨a, ns, 0, plb, rfl, g5.seq hS21, h63, by decide, by decide, fun v8 H8 pb8 ps8 pe8 ⟨g8, hV8, _⟩ => ?_⟩
    refine ⟨dScr _, dScr _, (hV21.mono (g5.trans g8)).rep, hV8.rep, Nat.le_trans (deep_dScr _) (by decide), ?_⟩
    rw [eqD_refl]
    exact q _

end
theorem len_1 {α : Type} : ∀ {us : List α} (_ : us.length = 1), ∃ u0, us = [u0]
  | [u0], _ => ⟨u0, rfl⟩
theorem len_2 {α : Type} : ∀ {us : List α} (_ : us.length = 2), ∃ u0 u1, us = [u0, u1]
  | [u0, u1], _ => ⟨u0, u1, rfl⟩
theorem len_3 {α : Type} : ∀ {us : List α} (_ : us.length = 3), ∃ u0 u1 u2, us = [u0, u1, u2]
  | [u0, u1, u2], _ => ⟨u0, u1, u2, rfl⟩
theorem all_mk {l : PySem.W.OpenLaw} {w : World} {K : PySem.W.Frag} {h : Heap} {mg : Str → Option Value} {fa f0 f1 f2 f3 f4 f5 f6 f7 f8 f9 f10 f11 f12 f13 f14 f15 f16 f17 f18 f19 f20 f21 : Addr} (X : K.In h) (G : h.Ns mainGlobals mg) (hfa : mg "law" = some (.ref fa))
    {od0 an0 od1 an1 od2 an2 od3 an3 od4 an4 od5 an5 od6 an6 od7 an7 od8 an8 od9 an9 od10 an10 od11 an11 od12 an12 od13 an13 od14 an14 od15 an15 od16 an16 od17 an17 od18 an18 od19 an19 od20 an20 od21 an21 : Option Addr} {sl0 sl1 sl2 sl3 sl4 sl5 sl6 sl7 sl8 sl9 sl10 sl11 sl12 sl13 sl14 sl15 sl16 sl17 sl18 sl19 sl20 sl21 : Array (Option Value)} {oc0 kV0 dc0 pm0 cd0 ct0 oc1 kV1 dc1 pm1 cd1 ct1 oc2 kV2 dc2 pm2 cd2 ct2 oc3 kV3 dc3 pm3 cd3 ct3 oc4 kV4 dc4 pm4 cd4 ct4 oc5 kV5 dc5 pm5 cd5 ct5 oc6 kV6 dc6 pm6 cd6 ct6 oc7 kV7 dc7 pm7 cd7 ct7 oc8 kV8 dc8 pm8 cd8 ct8 oc9 kV9 dc9 pm9 cd9 ct9 oc10 kV10 dc10 pm10 cd10 ct10 oc11 kV11 dc11 pm11 cd11 ct11 oc12 kV12 dc12 pm12 cd12 ct12 oc13 kV13 dc13 pm13 cd13 ct13 oc14 kV14 dc14 pm14 cd14 ct14 oc15 kV15 dc15 pm15 cd15 ct15 oc16 kV16 dc16 pm16 cd16 ct16 oc17 kV17 dc17 pm17 cd17 ct17 oc18 kV18 dc18 pm18 cd18 ct18 oc19 kV19 dc19 pm19 cd19 ct19 oc20 kV20 dc20 pm20 cd20 ct20 oc21 kV21 dc21 pm21 cd21 ct21 : Value}
    (a0 : PySem.W.nsIn K mainGlobals "is_tuple_of" = some (some (.ref f0))) (l0 : K.lookup f0 = some ⟨oc0, od0, .func (PySem.W.fnOf "is_tuple_of" "is_tuple_of" (defArgs s_is_tuple_of) (defBody s_is_tuple_of) (defScope s_is_tuple_of) .none kV0 dc0 pm0 an0 cd0 ct0), sl0⟩) (c0 : PySem.W.codeIn K cd0 "is_tuple_of" = true) (k0 : PySem.W.keepIn K (.ref f0) = true)
    (a1 : PySem.W.nsIn K mainGlobals "is_number_below" = some (some (.ref f1))) (l1 : K.lookup f1 = some ⟨oc1, od1, .func (PySem.W.fnOf "is_number_below" "is_number_below" (defArgs s_is_number_below) (defBody s_is_number_below) (defScope s_is_number_below) .none kV1 dc1 pm1 an1 cd1 ct1), sl1⟩) (c1 : PySem.W.codeIn K cd1 "is_number_below" = true) (k1 : PySem.W.keepIn K (.ref f1) = true)
    (a2 : PySem.W.nsIn K mainGlobals "is_word" = some (some (.ref f2))) (l2 : K.lookup f2 = some ⟨oc2, od2, .func (PySem.W.fnOf "is_word" "is_word" (defArgs s_is_word) (defBody s_is_word) (defScope s_is_word) .none kV2 dc2 pm2 an2 cd2 ct2), sl2⟩) (c2 : PySem.W.codeIn K cd2 "is_word" = true) (k2 : PySem.W.keepIn K (.ref f2) = true)
    (a3 : PySem.W.nsIn K mainGlobals "all_unlike" = some (some (.ref f3))) (l3 : K.lookup f3 = some ⟨oc3, od3, .func (PySem.W.fnOf "all_unlike" "all_unlike" (defArgs s_all_unlike) (defBody s_all_unlike) (defScope s_all_unlike) .none kV3 dc3 pm3 an3 cd3 ct3), sl3⟩) (c3 : PySem.W.codeIn K cd3 "all_unlike" = true) (k3 : PySem.W.keepIn K (.ref f3) = true)
    (a4 : PySem.W.nsIn K mainGlobals "are_signs" = some (some (.ref f4))) (l4 : K.lookup f4 = some ⟨oc4, od4, .func (PySem.W.fnOf "are_signs" "are_signs" (defArgs s_are_signs) (defBody s_are_signs) (defScope s_are_signs) .none kV4 dc4 pm4 an4 cd4 ct4), sl4⟩) (c4 : PySem.W.codeIn K cd4 "are_signs" = true) (k4 : PySem.W.keepIn K (.ref f4) = true)
    (a5 : PySem.W.nsIn K mainGlobals "is_mark" = some (some (.ref f5))) (l5 : K.lookup f5 = some ⟨oc5, od5, .func (PySem.W.fnOf "is_mark" "is_mark" (defArgs s_is_mark) (defBody s_is_mark) (defScope s_is_mark) .none kV5 dc5 pm5 an5 cd5 ct5), sl5⟩) (c5 : PySem.W.codeIn K cd5 "is_mark" = true) (k5 : PySem.W.keepIn K (.ref f5) = true)
    (a6 : PySem.W.nsIn K mainGlobals "is_step" = some (some (.ref f6))) (l6 : K.lookup f6 = some ⟨oc6, od6, .func (PySem.W.fnOf "is_step" "is_step" (defArgs s_is_step) (defBody s_is_step) (defScope s_is_step) .none kV6 dc6 pm6 an6 cd6 ct6), sl6⟩) (c6 : PySem.W.codeIn K cd6 "is_step" = true) (k6 : PySem.W.keepIn K (.ref f6) = true)
    (a7 : PySem.W.nsIn K mainGlobals "are_marks" = some (some (.ref f7))) (l7 : K.lookup f7 = some ⟨oc7, od7, .func (PySem.W.fnOf "are_marks" "are_marks" (defArgs s_are_marks) (defBody s_are_marks) (defScope s_are_marks) .none kV7 dc7 pm7 an7 cd7 ct7), sl7⟩) (c7 : PySem.W.codeIn K cd7 "are_marks" = true) (k7 : PySem.W.keepIn K (.ref f7) = true)
    (a8 : PySem.W.nsIn K mainGlobals "are_steps" = some (some (.ref f8))) (l8 : K.lookup f8 = some ⟨oc8, od8, .func (PySem.W.fnOf "are_steps" "are_steps" (defArgs s_are_steps) (defBody s_are_steps) (defScope s_are_steps) .none kV8 dc8 pm8 an8 cd8 ct8), sl8⟩) (c8 : PySem.W.codeIn K cd8 "are_steps" = true) (k8 : PySem.W.keepIn K (.ref f8) = true)
    (a9 : PySem.W.nsIn K mainGlobals "is_scribe" = some (some (.ref f9))) (l9 : K.lookup f9 = some ⟨oc9, od9, .func (PySem.W.fnOf "is_scribe" "is_scribe" (defArgs s_is_scribe) (defBody s_is_scribe) (defScope s_is_scribe) .none kV9 dc9 pm9 an9 cd9 ct9), sl9⟩) (c9 : PySem.W.codeIn K cd9 "is_scribe" = true) (k9 : PySem.W.keepIn K (.ref f9) = true)
    (a10 : PySem.W.nsIn K mainGlobals "_law_cell_at" = some (some (.ref f10))) (l10 : K.lookup f10 = some ⟨oc10, od10, .func (PySem.W.fnOf "_law_cell_at" "_law_cell_at" (defArgs s_law_cell_at) (defBody s_law_cell_at) (defScope s_law_cell_at) .none kV10 dc10 pm10 an10 cd10 ct10), sl10⟩) (c10 : PySem.W.codeIn K cd10 "_law_cell_at" = true) (k10 : PySem.W.keepIn K (.ref f10) = true)
    (a11 : PySem.W.nsIn K mainGlobals "_law_digits_at" = some (some (.ref f11))) (l11 : K.lookup f11 = some ⟨oc11, od11, .func (PySem.W.fnOf "_law_digits_at" "_law_digits_at" (defArgs s_law_digits_at) (defBody s_law_digits_at) (defScope s_law_digits_at) .none kV11 dc11 pm11 an11 cd11 ct11), sl11⟩) (c11 : PySem.W.codeIn K cd11 "_law_digits_at" = true) (k11 : PySem.W.keepIn K (.ref f11) = true)
    (a12 : PySem.W.nsIn K mainGlobals "_law_word" = some (some (.ref f12))) (l12 : K.lookup f12 = some ⟨oc12, od12, .func (PySem.W.fnOf "_law_word" "_law_word" (defArgs s_law_word) (defBody s_law_word) (defScope s_law_word) .none kV12 dc12 pm12 an12 cd12 ct12), sl12⟩) (c12 : PySem.W.codeIn K cd12 "_law_word" = true) (k12 : PySem.W.keepIn K (.ref f12) = true)
    (a13 : PySem.W.nsIn K mainGlobals "_law_scribe" = some (some (.ref f13))) (l13 : K.lookup f13 = some ⟨oc13, od13, .func (PySem.W.fnOf "_law_scribe" "_law_scribe" (defArgs s_law_scribe) (defBody s_law_scribe) (defScope s_law_scribe) .none kV13 dc13 pm13 an13 cd13 ct13), sl13⟩) (c13 : PySem.W.codeIn K cd13 "_law_scribe" = true) (k13 : PySem.W.keepIn K (.ref f13) = true)
    (a14 : PySem.W.nsIn K mainGlobals "_law_copied" = some (some (.ref f14))) (l14 : K.lookup f14 = some ⟨oc14, od14, .func (PySem.W.fnOf "_law_copied" "_law_copied" (defArgs s_law_copied) (defBody s_law_copied) (defScope s_law_copied) .none kV14 dc14 pm14 an14 cd14 ct14), sl14⟩) (c14 : PySem.W.codeIn K cd14 "_law_copied" = true) (k14 : PySem.W.keepIn K (.ref f14) = true)
    (a15 : PySem.W.nsIn K mainGlobals "_law_letters" = some (some (.ref f15))) (l15 : K.lookup f15 = some ⟨oc15, od15, .func (PySem.W.fnOf "_law_letters" "_law_letters" (defArgs s_law_letters) (defBody s_law_letters) (defScope s_law_letters) .none kV15 dc15 pm15 an15 cd15 ct15), sl15⟩) (c15 : PySem.W.codeIn K cd15 "_law_letters" = true) (k15 : PySem.W.keepIn K (.ref f15) = true)
    (a16 : PySem.W.nsIn K mainGlobals "_law_number" = some (some (.ref f16))) (l16 : K.lookup f16 = some ⟨oc16, od16, .func (PySem.W.fnOf "_law_number" "_law_number" (defArgs s_law_number) (defBody s_law_number) (defScope s_law_number) .none kV16 dc16 pm16 an16 cd16 ct16), sl16⟩) (c16 : PySem.W.codeIn K cd16 "_law_number" = true) (k16 : PySem.W.keepIn K (.ref f16) = true)
    (a17 : PySem.W.nsIn K mainGlobals "_law_good" = some (some (.ref f17))) (l17 : K.lookup f17 = some ⟨oc17, od17, .func (PySem.W.fnOf "_law_good" "_law_good" (defArgs s_law_good) (defBody s_law_good) (defScope s_law_good) .none kV17 dc17 pm17 an17 cd17 ct17), sl17⟩) (c17 : PySem.W.codeIn K cd17 "_law_good" = true) (k17 : PySem.W.keepIn K (.ref f17) = true)
    (a18 : PySem.W.nsIn K mainGlobals "_law_due" = some (some (.ref f18))) (l18 : K.lookup f18 = some ⟨oc18, od18, .func (PySem.W.fnOf "_law_due" "_law_due" (defArgs s_law_due) (defBody s_law_due) (defScope s_law_due) .none kV18 dc18 pm18 an18 cd18 ct18), sl18⟩) (c18 : PySem.W.codeIn K cd18 "_law_due" = true) (k18 : PySem.W.keepIn K (.ref f18) = true)
    (a19 : PySem.W.nsIn K mainGlobals "_law_bent_part" = some (some (.ref f19))) (l19 : K.lookup f19 = some ⟨oc19, od19, .func (PySem.W.fnOf "_law_bent_part" "_law_bent_part" (defArgs s_law_bent_part) (defBody s_law_bent_part) (defScope s_law_bent_part) .none kV19 dc19 pm19 an19 cd19 ct19), sl19⟩) (c19 : PySem.W.codeIn K cd19 "_law_bent_part" = true) (k19 : PySem.W.keepIn K (.ref f19) = true)
    (a20 : PySem.W.nsIn K mainGlobals "_law_bent" = some (some (.ref f20))) (l20 : K.lookup f20 = some ⟨oc20, od20, .func (PySem.W.fnOf "_law_bent" "_law_bent" (defArgs s_law_bent) (defBody s_law_bent) (defScope s_law_bent) .none kV20 dc20 pm20 an20 cd20 ct20), sl20⟩) (c20 : PySem.W.codeIn K cd20 "_law_bent" = true) (k20 : PySem.W.keepIn K (.ref f20) = true)
    (a21 : PySem.W.nsIn K mainGlobals "law" = some (some (.ref f21))) (l21 : K.lookup f21 = some ⟨oc21, od21, .func (PySem.W.fnOf "law" "law" (defArgs s_law) (defBody s_law) (defScope s_law) .none kV21 dc21 pm21 an21 cd21 ct21), sl21⟩) (c21 : PySem.W.codeIn K cd21 "law" = true) (k21 : PySem.W.keepIn K (.ref f21) = true)
    (z0 : PySem.W.nsIn K mainGlobals "all" = some none)
    (z1 : PySem.W.nsIn K mainGlobals "bool" = some none)
    (z2 : PySem.W.nsIn K mainGlobals "int" = some none)
    (z3 : PySem.W.nsIn K mainGlobals "isinstance" = some none)
    (z4 : PySem.W.nsIn K mainGlobals "len" = some none)
    (z5 : PySem.W.nsIn K mainGlobals "list" = some none)
    (z6 : PySem.W.nsIn K mainGlobals "max" = some none)
    (z7 : PySem.W.nsIn K mainGlobals "min" = some none)
    (z8 : PySem.W.nsIn K mainGlobals "range" = some none)
    (z9 : PySem.W.nsIn K mainGlobals "set" = some none)
    (z10 : PySem.W.nsIn K mainGlobals "str" = some none)
    (z11 : PySem.W.nsIn K mainGlobals "tuple" = some none)
    {gt0 : Tok} (g0 : PySem.W.nsIn K mainGlobals "BEGINS" = some (some (.int 2 gt0)))
    {gt1 : Tok} (g1 : PySem.W.nsIn K mainGlobals "ENDS" = some (some (.int 4 gt1)))
    {gt2 : Tok} (g2 : PySem.W.nsIn K mainGlobals "MOST_ROOMS" = some (some (.int 200 gt2)))
    {gt3 : Tok} (g3 : PySem.W.nsIn K mainGlobals "ROOMS" = some (some (.int 1 gt3)))
    {gt4 : Tok} (g4 : PySem.W.nsIn K mainGlobals "SIGNS" = some (some (.int 0 gt4)))
    {gt5 : Tok} (g5 : PySem.W.nsIn K mainGlobals "STEPS" = some (some (.int 3 gt5))) :
    ∃ fd : FuncData, (∀ (s : Shared) (v : Value), BindsTo s fd ⟨[v], []⟩ [("_law_script", v)]) ∧ ∀ base : Heap, K.In base → base.Ns mainGlobals mg → FnOk l.prog w K mg base CX0 5 fa fd ["_law_script"] (spLaw K) := by
  have e := hfa.symm.trans (PySem.W.mg_of X G a21)
  cases e
  have B : Bi mg := ⟨PySem.W.mg_none_of X G z0, PySem.W.mg_none_of X G z1, PySem.W.mg_none_of X G z2, PySem.W.mg_none_of X G z3, PySem.W.mg_none_of X G z4, PySem.W.mg_none_of X G z5, PySem.W.mg_none_of X G z6, PySem.W.mg_none_of X G z7, PySem.W.mg_none_of X G z8, PySem.W.mg_none_of X G z9, PySem.W.mg_none_of X G z10, PySem.W.mg_none_of X G z11, ⟨_, PySem.W.mg_of X G g0⟩, ⟨_, PySem.W.mg_of X G g1⟩, ⟨_, PySem.W.mg_of X G g2⟩, ⟨_, PySem.W.mg_of X G g3⟩, ⟨_, PySem.W.mg_of X G g4⟩, ⟨_, PySem.W.mg_of X G g5⟩⟩
  have F0 := fun_mk (st := s_is_tuple_of) l0 c0 k0
  have F1 := fun_mk (st := s_is_number_below) l1 c1 k1
  have F2 := fun_mk (st := s_is_word) l2 c2 k2
  have F3 := fun_mk (st := s_all_unlike) l3 c3 k3
  have F4 := fun_mk (st := s_are_signs) l4 c4 k4
  have F5 := fun_mk (st := s_is_mark) l5 c5 k5
  have F6 := fun_mk (st := s_is_step) l6 c6 k6
  have F7 := fun_mk (st := s_are_marks) l7 c7 k7
  have F8 := fun_mk (st := s_are_steps) l8 c8 k8
  have F9 := fun_mk (st := s_is_scribe) l9 c9 k9
  have F10 := fun_mk (st := s_law_cell_at) l10 c10 k10
  have F11 := fun_mk (st := s_law_digits_at) l11 c11 k11
  have F12 := fun_mk (st := s_law_word) l12 c12 k12
  have F13 := fun_mk (st := s_law_scribe) l13 c13 k13
  have F14 := fun_mk (st := s_law_copied) l14 c14 k14
  have F15 := fun_mk (st := s_law_letters) l15 c15 k15
  have F16 := fun_mk (st := s_law_number) l16 c16 k16
  have F17 := fun_mk (st := s_law_good) l17 c17 k17
  have F18 := fun_mk (st := s_law_due) l18 c18 k18
  have F19 := fun_mk (st := s_law_bent_part) l19 c19 k19
  have F20 := fun_mk (st := s_law_bent) l20 c20 k20
  have F21 := fun_mk (st := s_law) l21 c21 k21
  refine ⟨PySem.W.fnOf "law" "law" (defArgs s_law) (defBody s_law) (defScope s_law) .none kV21 dc21 pm21 an21 cd21 ct21, fun s v => .of_eq rfl, fun base _ _ => ?_⟩
  have C_is_tuple_of : Cal l.prog w K mg base "is_tuple_of" ["thing", "count"] 1 (spTupOf K) := ⟨_, _, ok_is_tuple_of (P := l.prog) (w := w) (base := base) B  F0, F0.binds (ps := ["thing", "count"]) (fun _ _ _ _ _ _ us hl => by obtain ⟨u0, u1, rfl⟩ := len_2 hl; rfl), F0.kp, PySem.W.mg_of X G a0⟩
  have C_is_number_below : Cal l.prog w K mg base "is_number_below" ["thing", "bound"] 1 (spNumB K) := ⟨_, _, ok_is_number_below (P := l.prog) (w := w) (base := base) B  F1, F1.binds (ps := ["thing", "bound"]) (fun _ _ _ _ _ _ us hl => by obtain ⟨u0, u1, rfl⟩ := len_2 hl; rfl), F1.kp, PySem.W.mg_of X G a1⟩
  have C_is_word : Cal l.prog w K mg base "is_word" ["thing"] 1 (spIsWord K) := ⟨_, _, ok_is_word (P := l.prog) (w := w) (base := base) B  F2, F2.binds (ps := ["thing"]) (fun _ _ _ _ _ _ us hl => by obtain ⟨u0, rfl⟩ := len_1 hl; rfl), F2.kp, PySem.W.mg_of X G a2⟩
  have C_all_unlike : Cal l.prog w K mg base "all_unlike" ["parts"] 1 (spUnl K) := ⟨_, _, ok_all_unlike (P := l.prog) (w := w) (base := base) B  F3, F3.binds (ps := ["parts"]) (fun _ _ _ _ _ _ us hl => by obtain ⟨u0, rfl⟩ := len_1 hl; rfl), F3.kp, PySem.W.mg_of X G a3⟩
  have C_are_signs : Cal l.prog w K mg base "are_signs" ["thing"] 2 (spSigns K) := ⟨_, _, ok_are_signs (P := l.prog) (w := w) (base := base) B C_is_word C_all_unlike F4, F4.binds (ps := ["thing"]) (fun _ _ _ _ _ _ us hl => by obtain ⟨u0, rfl⟩ := len_1 hl; rfl), F4.kp, PySem.W.mg_of X G a4⟩
  have C_is_mark : Cal l.prog w K mg base "is_mark" ["thing", "rooms"] 2 (spMark K) := ⟨_, _, ok_is_mark (P := l.prog) (w := w) (base := base) B C_is_tuple_of C_is_number_below C_is_word F5, F5.binds (ps := ["thing", "rooms"]) (fun _ _ _ _ _ _ us hl => by obtain ⟨u0, u1, rfl⟩ := len_2 hl; rfl), F5.kp, PySem.W.mg_of X G a5⟩
  have C_is_step : Cal l.prog w K mg base "is_step" ["thing", "signs", "rooms"] 2 (spStp K) := ⟨_, _, ok_is_step (P := l.prog) (w := w) (base := base) B C_is_word C_is_tuple_of C_is_number_below F6, F6.binds (ps := ["thing", "signs", "rooms"]) (fun _ _ _ _ _ _ us hl => by obtain ⟨u0, u1, u2, rfl⟩ := len_3 hl; rfl), F6.kp, PySem.W.mg_of X G a6⟩
  have C_are_marks : Cal l.prog w K mg base "are_marks" ["thing", "rooms"] 3 (spMarks K) := ⟨_, _, ok_are_marks (P := l.prog) (w := w) (base := base) B C_all_unlike C_is_mark F7, F7.binds (ps := ["thing", "rooms"]) (fun _ _ _ _ _ _ us hl => by obtain ⟨u0, u1, rfl⟩ := len_2 hl; rfl), F7.kp, PySem.W.mg_of X G a7⟩
  have C_are_steps : Cal l.prog w K mg base "are_steps" ["thing", "signs", "rooms"] 3 (spStps K) := ⟨_, _, ok_are_steps (P := l.prog) (w := w) (base := base) B C_all_unlike C_is_step F8, F8.binds (ps := ["thing", "signs", "rooms"]) (fun _ _ _ _ _ _ us hl => by obtain ⟨u0, u1, u2, rfl⟩ := len_3 hl; rfl), F8.kp, PySem.W.mg_of X G a8⟩
  have C_is_scribe : Cal l.prog w K mg base "is_scribe" ["thing"] 4 (spScr K) := ⟨_, _, ok_is_scribe (P := l.prog) (w := w) (base := base) B C_are_steps C_is_tuple_of C_are_signs C_is_number_below C_are_marks F9, F9.binds (ps := ["thing"]) (fun _ _ _ _ _ _ us hl => by obtain ⟨u0, rfl⟩ := len_1 hl; rfl), F9.kp, PySem.W.mg_of X G a9⟩
  have C_law_cell_at : Cal l.prog w K mg base "_law_cell_at" ["_law_script", "_law_k"] 1 (spCell K) := ⟨_, _, ok_law_cell_at (P := l.prog) (w := w) (base := base) B  F10, F10.binds (ps := ["_law_script", "_law_k"]) (fun _ _ _ _ _ _ us hl => by obtain ⟨u0, u1, rfl⟩ := len_2 hl; rfl), F10.kp, PySem.W.mg_of X G a10⟩
  have C_law_digits_at : Cal l.prog w K mg base "_law_digits_at" ["_law_script", "_law_k"] 2 (spDigitsX K) := ⟨_, _, ok_law_digits_at (P := l.prog) (w := w) (base := base) B C_law_cell_at F11, F11.binds (ps := ["_law_script", "_law_k"]) (fun _ _ _ _ _ _ us hl => by obtain ⟨u0, u1, rfl⟩ := len_2 hl; rfl), F11.kp, PySem.W.mg_of X G a11⟩
  have C_law_word : Cal l.prog w K mg base "_law_word" ["_law_cell"] 1 (spWordX) := ⟨_, _, ok_law_word (P := l.prog) (w := w) (base := base) B  F12, F12.binds (ps := ["_law_cell"]) (fun _ _ _ _ _ _ us hl => by obtain ⟨u0, rfl⟩ := len_1 hl; rfl), F12.kp, PySem.W.mg_of X G a12⟩
  have C_law_scribe : Cal l.prog w K mg base "_law_scribe" ["_law_script", "_law_at", "_law_plain"] 3 (spScribeX K) := ⟨_, _, ok_law_scribe (P := l.prog) (w := w) (base := base) B C_law_cell_at C_law_digits_at C_law_word F13, F13.binds (ps := ["_law_script", "_law_at", "_law_plain"]) (fun _ _ _ _ _ _ us hl => by obtain ⟨u0, u1, u2, rfl⟩ := len_3 hl; rfl), F13.kp, PySem.W.mg_of X G a13⟩
  have C_law_copied : Cal l.prog w K mg base "_law_copied" ["_law_scribe_here"] 1 (spCopied K) := ⟨_, _, ok_law_copied (P := l.prog) (w := w) (base := base) B  F14, F14.binds (ps := ["_law_scribe_here"]) (fun _ _ _ _ _ _ us hl => by obtain ⟨u0, rfl⟩ := len_1 hl; rfl), F14.kp, PySem.W.mg_of X G a14⟩
  have C_law_letters : Cal l.prog w K mg base "_law_letters" ["_law_thing"] 1 (spLets K) := ⟨_, _, ok_law_letters (P := l.prog) (w := w) (base := base) B  F15, F15.binds (ps := ["_law_thing"]) (fun _ _ _ _ _ _ us hl => by obtain ⟨u0, rfl⟩ := len_1 hl; rfl), F15.kp, PySem.W.mg_of X G a15⟩
  have C_law_number : Cal l.prog w K mg base "_law_number" ["_law_thing", "_law_most"] 1 (spNumB K) := ⟨_, _, ok_law_number (P := l.prog) (w := w) (base := base) B  F16, F16.binds (ps := ["_law_thing", "_law_most"]) (fun _ _ _ _ _ _ us hl => by obtain ⟨u0, u1, rfl⟩ := len_2 hl; rfl), F16.kp, PySem.W.mg_of X G a16⟩
  have C_law_good : Cal l.prog w K mg base "_law_good" ["_law_thing", "_law_rooms", "_law_signs"] 2 (spGood K) := ⟨_, _, ok_law_good (P := l.prog) (w := w) (base := base) B C_law_letters C_law_number F17, F17.binds (ps := ["_law_thing", "_law_rooms", "_law_signs"]) (fun _ _ _ _ _ _ us hl => by obtain ⟨u0, u1, u2, rfl⟩ := len_3 hl; rfl), F17.kp, PySem.W.mg_of X G a17⟩
  have C_law_due : Cal l.prog w K mg base "_law_due" ["_law_thing"] 3 (spScr K) := ⟨_, _, ok_law_due (P := l.prog) (w := w) (base := base) B C_law_letters C_law_number C_law_good F18, F18.binds (ps := ["_law_thing"]) (fun _ _ _ _ _ _ us hl => by obtain ⟨u0, rfl⟩ := len_1 hl; rfl), F18.kp, PySem.W.mg_of X G a18⟩
  have C_law_bent_part : Cal l.prog w K mg base "_law_bent_part" ["_law_part", "_law_way"] 1 (spBentP K) := ⟨_, _, ok_law_bent_part (P := l.prog) (w := w) (base := base) B  F19, F19.binds (ps := ["_law_part", "_law_way"]) (fun _ _ _ _ _ _ us hl => by obtain ⟨u0, u1, rfl⟩ := len_2 hl; rfl), F19.kp, PySem.W.mg_of X G a19⟩
  have C_law_bent : Cal l.prog w K mg base "_law_bent" ["_law_scribe_here", "_law_way"] 2 (spBent K) := ⟨_, _, ok_law_bent (P := l.prog) (w := w) (base := base) B C_law_bent_part F20, F20.binds (ps := ["_law_scribe_here", "_law_way"]) (fun _ _ _ _ _ _ us hl => by obtain ⟨u0, u1, rfl⟩ := len_2 hl; rfl), F20.kp, PySem.W.mg_of X G a20⟩
  exact ok_law (P := l.prog) (w := w) (base := base) B C_law_scribe C_law_bent C_is_scribe C_law_copied C_law_cell_at C_law_due F21
theorem walk {l : PySem.W.OpenLaw} {q : Program} {loose : List Str} {XP : (Str → Option Value) → Heap → Prop} {YP : World → Heap → Prop} {d : DefRec} {K : Params → PySem.W.Frag} (hn : l.most = some 63) (hdf : d.params.defaults = [])
    (hY : ∀ (w : World) (h : Heap), YP w h → (K w.params).In h)
    (F : ∀ (w : World) (mg : Str → Option Value) (fa : Addr) (h : Heap), (K w.params).In h → h.Ns mainGlobals mg → mg d.name = some (.ref fa) →
      ∃ fd : FuncData, (∀ (s : Shared) (u : Value), BindsTo s fd ⟨[u], []⟩ [("_law_script", u)]) ∧ ∀ base : Heap, (K w.params).In base → base.Ns mainGlobals mg → FnOk l.prog w (K w.params) mg base CX0 5 fa fd ["_law_script"] (spLaw (K w.params))) :
    PySem.W.WalkO q loose XP YP l.row.toRowW d [] (fun f vs => PySem.call f vs) :=
  L2.walk_of (n := 63) (k := 5) (x := "_law_script") (CX := fun _ => CX0) (sp := fun w => spLaw (K w.params)) hn (by decide) hdf ⟨rfl, by decide, by decide⟩ hY F (fun _ _ a ns hl _ hS => ⟨a, ns, rfl, hS, hl, fun _ => rfl⟩) fun _ _ _ _ _ z => z
end My
open PySem PySem.W PyProof.Rows
set_option maxRecDepth 100000 in
set_option maxHeartbeats 0 in
theorem PySem.Challenge.cw_earlyscribe_k11_what_is_a_scribe_holds : PySem.Challenge.rw_earlyscribe_k11_what_is_a_scribe.Holds := by
  w_on; o_law; k_head; (case hw => w_witness2)
  k_fill
  refine My.walk (l := PySem.Challenge.rw_earlyscribe_k11_what_is_a_scribe) rfl rfl (fun w h Y => PySem.W.kIn_of Y) ?F
  case F =>
    intro w mg fa h KX G hmg
    refine' My.all_mk KX G hmg ?a0 ?l0 ?c0 ?k0 ?a1 ?l1 ?c1 ?k1 ?a2 ?l2 ?c2 ?k2 ?a3 ?l3 ?c3 ?k3 ?a4 ?l4 ?c4 ?k4 ?a5 ?l5 ?c5 ?k5 ?a6 ?l6 ?c6 ?k6 ?a7 ?l7 ?c7 ?k7 ?a8 ?l8 ?c8 ?k8 ?a9 ?l9 ?c9 ?k9 ?a10 ?l10 ?c10 ?k10 ?a11 ?l11 ?c11 ?k11 ?a12 ?l12 ?c12 ?k12 ?a13 ?l13 ?c13 ?k13 ?a14 ?l14 ?c14 ?k14 ?a15 ?l15 ?c15 ?k15 ?a16 ?l16 ?c16 ?k16 ?a17 ?l17 ?c17 ?k17 ?a18 ?l18 ?c18 ?k18 ?a19 ?l19 ?c19 ?k19 ?a20 ?l20 ?c20 ?k20 ?a21 ?l21 ?c21 ?k21 ?z0 ?z1 ?z2 ?z3 ?z4 ?z5 ?z6 ?z7 ?z8 ?z9 ?z10 ?z11 ?gc0 ?gc1 ?gc2 ?gc3 ?gc4 ?gc5
    (case a0 => k_is); (case l0 => k_is); (case c0 => k_is); (case k0 => k_is)
    (case a1 => k_is); (case l1 => k_is); (case c1 => k_is); (case k1 => k_is)
    (case a2 => k_is); (case l2 => k_is); (case c2 => k_is); (case k2 => k_is)
    (case a3 => k_is); (case l3 => k_is); (case c3 => k_is); (case k3 => k_is)
    (case a4 => k_is); (case l4 => k_is); (case c4 => k_is); (case k4 => k_is)
    (case a5 => k_is); (case l5 => k_is); (case c5 => k_is); (case k5 => k_is)
    (case a6 => k_is); (case l6 => k_is); (case c6 => k_is); (case k6 => k_is)
    (case a7 => k_is); (case l7 => k_is); (case c7 => k_is); (case k7 => k_is)
    (case a8 => k_is); (case l8 => k_is); (case c8 => k_is); (case k8 => k_is)
    (case a9 => k_is); (case l9 => k_is); (case c9 => k_is); (case k9 => k_is)
    (case a10 => k_is); (case l10 => k_is); (case c10 => k_is); (case k10 => k_is)
    (case a11 => k_is); (case l11 => k_is); (case c11 => k_is); (case k11 => k_is)
    (case a12 => k_is); (case l12 => k_is); (case c12 => k_is); (case k12 => k_is)
    (case a13 => k_is); (case l13 => k_is); (case c13 => k_is); (case k13 => k_is)
    (case a14 => k_is); (case l14 => k_is); (case c14 => k_is); (case k14 => k_is)
    (case a15 => k_is); (case l15 => k_is); (case c15 => k_is); (case k15 => k_is)
    (case a16 => k_is); (case l16 => k_is); (case c16 => k_is); (case k16 => k_is)
    (case a17 => k_is); (case l17 => k_is); (case c17 => k_is); (case k17 => k_is)
    (case a18 => k_is); (case l18 => k_is); (case c18 => k_is); (case k18 => k_is)
    (case a19 => k_is); (case l19 => k_is); (case c19 => k_is); (case k19 => k_is)
    (case a20 => k_is); (case l20 => k_is); (case c20 => k_is); (case k20 => k_is)
    (case a21 => k_is); (case l21 => k_is); (case c21 => k_is); (case k21 => k_is)
    (case z0 => k_is)
    (case z1 => k_is)
    (case z2 => k_is)
    (case z3 => k_is)
    (case z4 => k_is)
    (case z5 => k_is)
    (case z6 => k_is)
    (case z7 => k_is)
    (case z8 => k_is)
    (case z9 => k_is)
    (case z10 => k_is)
    (case z11 => k_is)
    (case gc0 => k_is)
    (case gc1 => k_is)
    (case gc2 => k_is)
    (case gc3 => k_is)
    (case gc4 => k_is)
    (case gc5 => k_is)
