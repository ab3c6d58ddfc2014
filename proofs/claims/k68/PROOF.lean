import PyProof.Rows.All
import Wide.All
import OpenK.AllK
import Wide.FinOn
import Lean
import PyProof.EqAt
import PyProof.EqKinds
import PyProof.TupleCall
import PySem.Challenge.RW_earlyscribe_k68_both_refused
set_option maxHeartbeats 4000000
set_option Elab.async false
set_option linter.all false
set_option maxRecDepth 100000
/-! THE HAND LAYER, for ints, bools, texts, own classes, LISTS and tuples (index, slices, in, append, pop ..), calls, loops. Paste it whole ahead of your own text; what your proof does not reach may be deleted. -/
namespace L2
open PySem PySem.Spec PyProof.Rows

abbrev Key := Sum Int Str
def keyIs : Key → Value → Bool
  | .inl k, v => Value.isInt k v
  | .inr x, v => Value.isStrOf x v
def keyH (w : World) : Key → Int
  | .inl k => hashInt k
  | .inr x => hashStr w x
theorem keyIs_shape : ∀ {k : Key} {v : Value}, keyIs k v = true → (∃ i t, k = Sum.inl i ∧ v = Value.int i t) ∨ (∃ x t, k = Sum.inr x ∧ v = Value.str x t)
  | .inl i, v, h => by
    obtain ⟨t, e⟩ := Value.isInt_shape (k := i) (v := v) h
    exact .inl ⟨i, t, rfl, e⟩
  | .inr x, v, h => by
    obtain ⟨t, e⟩ := Value.isStrOf_shape (x := x) (v := v) h
    exact .inr ⟨x, t, rfl, e⟩
theorem keyIs_int (i : Int) (t : Tok) : keyIs (.inl i) (.int i t) = true := by simp [keyIs, Value.isInt]
theorem keyIs_str (x : Str) (t : Tok) : keyIs (.inr x) (.str x t) = true := by simp [keyIs, Value.isStrOf]
theorem key_ll (a b : Int) : decide ((Sum.inl a : Key) = Sum.inl b) = (a == b) := by
  by_cases e : a = b
  · subst e; simp
  · have h : ¬ (Sum.inl a : Key) = Sum.inl b := fun q => e (Sum.inl.inj q)
    rw [decide_eq_false h]
    exact (beq_eq_false_iff_ne.mpr e).symm
theorem key_rr (a b : Str) : decide ((Sum.inr a : Key) = Sum.inr b) = decide (a = b) := by
  by_cases e : a = b
  · subst e; simp
  · have h : ¬ (Sum.inr a : Key) = Sum.inr b := fun q => e (Sum.inr.inj q)
    rw [decide_eq_false h, decide_eq_false e]
theorem key_lr (a : Int) (b : Str) : decide ((Sum.inl a : Key) = Sum.inr b) = false := decide_eq_false (fun q => nomatch q)
theorem key_rl (a : Str) (b : Int) : decide ((Sum.inr a : Key) = Sum.inl b) = false := decide_eq_false (fun q => nomatch q)

def mixKind (prog : Program) (w : World) : PySem.KeyKind prog w Key where
  is := keyIs
  hash := keyH w
  inj := fun v a b ha hb => by
    rcases keyIs_shape ha with ⟨i, t, rfl, rfl⟩ | ⟨x, t, rfl, rfl⟩
    · rcases keyIs_shape hb with ⟨j, u, rfl, e⟩ | ⟨y, u, rfl, e⟩
      · injection e with e1 _; rw [e1]
      · exact nomatch e
    · rcases keyIs_shape hb with ⟨j, u, rfl, e⟩ | ⟨y, u, rfl, e⟩
      · exact nomatch e
      · injection e with e1 _; rw [e1]
  byValue := fun k v h => by
    rcases keyIs_shape h with ⟨i, t, rfl, rfl⟩ | ⟨x, t, rfl, rfl⟩ <;> rfl
  pyHash := fun hv h => by
    rcases keyIs_shape hv with ⟨i, t, rfl, rfl⟩ | ⟨x, t, rfl, rfl⟩
    · exact wpAny_pyHash_int h
    · exact wpAny_pyHash_str h
  eqBool := fun hu hv h => by
    rcases keyIs_shape hu with ⟨i, t, rfl, rfl⟩ | ⟨x, t, rfl, rfl⟩
    · rcases keyIs_shape hv with ⟨j, u, rfl, rfl⟩ | ⟨y, u, rfl, rfl⟩
      · rw [key_ll] at h; exact wpAny_eqBool_int h
      · rw [key_lr] at h; exact SeqAt.EqAt.int_str i t y u _ _ _ _ h
    · rcases keyIs_shape hv with ⟨j, u, rfl, rfl⟩ | ⟨y, u, rfl, rfl⟩
      · rw [key_rl] at h; exact SeqAt.EqAt.str_int x t j u _ _ _ _ h
      · rw [key_rr] at h; exact wpAny_eqBool_str h
  «strs» := fun k x t v h => by
    rcases keyIs_shape h with ⟨i, u, rfl, e⟩ | ⟨y, u, rfl, e⟩
    · exact nomatch e
    · injection e with e1 _
      subst e1
      cases v <;> rfl

theorem mixKind_int (prog : Program) (w : World) (i : Int) (t : Tok) : (mixKind prog w).is (.inl i) (.int i t) = true := keyIs_int i t
theorem mixKind_str (prog : Program) (w : World) (x : Str) (t : Tok) : (mixKind prog w).is (.inr x) (.str x t) = true := keyIs_str x t
end L2

namespace L2
open PySem PySem.Spec PyProof.Rows

inductive V where
  | non | bl (b : Bool) | int (i : Int) | str (x : Str) | byt (b : Array UInt8) | flt (b : UInt64) | ref (a : Addr) | ty (n : String)
  deriving DecidableEq

def RelV : V → Value → Prop
  | .non, u => u = Value.none
  | .bl b, u => u = Value.bool b
  | .int i, u => ∃ t, u = Value.int i t
  | .str x, u => ∃ t, u = Value.str x t
  | .byt b, u => ∃ t, u = Value.bytes b t
  | .flt b, u => ∃ t, u = Value.float b t
  | .ref a, u => u = Value.ref a
  | .ty n, u => u = Value.type n

abbrev Vals : List V → List Value → Prop := Paired RelV
theorem Vals.length {xs : List V} {us : List Value} (r : Vals xs us) : xs.length = us.length := Paired.length r
theorem Vals.get : ∀ {xs : List V} {us : List Value} {i : Nat} {x : V}, Vals xs us → xs[i]? = some x → ∃ u, us[i]? = some u ∧ RelV x u
  | _, _, _, _, .nil, e => by simp at e
  | _, _, 0, _, .cons r _, e => by simp at e; subst e; exact ⟨_, rfl, r⟩
  | _, _, i + 1, x, .cons _ t, e => by
    obtain ⟨u, h1, h2⟩ := Vals.get (i := i) (x := x) t (by simpa using e)
    exact ⟨u, by simpa using h1, h2⟩
theorem Vals.append : ∀ {xs ys : List V} {us ws : List Value}, Vals xs us → Vals ys ws → Vals (xs ++ ys) (us ++ ws)
  | _, _, _, _, .nil, s => s
  | _, _, _, _, .cons r t, s => .cons r (Vals.append t s)
def RelO : Option V → Option Value → Prop
  | some v, some u => RelV v u
  | none, none => True
  | _, _ => False
def KV {κ : Type} : List (κ × V) → List (κ × Value) → Prop := Paired fun (p : κ × V) (q : κ × Value) => p.1 = q.1 ∧ RelV p.2 q.2

def kV : Key → V
  | .inl i => .int i
  | .inr x => .str x

inductive HO where
  /-- a list -/
  | lst (xs : List V)
  /-- a tuple (never changes) -/
  | tup (xs : List V)
  /-- a dict whose keys are ints and texts; one whose keys are tuples of ints and texts (the empty one is both) -/
  | dK (kvs : List (Key × V)) | dT (kvs : List (List Key × V))
  /-- a set of ints: its members, its size -/
  | set (S : Int → Bool) (n : Nat)
  /-- an instance of the class at C, its dict at dx, its attributes -/
  | ins (C dx : Addr) (fs : List (Str × V))
  /-- the dict of the instance at x -/
  | own (x : Addr)
  /-- the dict of an exception -/
  | xd (fs : List (Str × V))
  /-- a bound method, f of x -/
  | met (f x : Addr)
  /-- a range object lo, lo + 1, .. below hi -/
  | rng (lo hi : Int)
  /-- a thing that is known to the object (the script; a dict while a loop walks it): read, never written while it is so -/
  | frz (o : Obj) (u : HO)
  /-- a code object's table -/
  | tbl (ps : Array Value)
  /-- any other thing, by what is true of its one object (a def of one's own: SetO a S n := HO.ext fun h => ..) -/
  | ext (φ : Heap → Prop)

abbrev Hp := Addr → Option HO
def upd (H : Hp) (a : Addr) (o : HO) : Hp := fun b => if b = a then some o else H b
theorem upd_same {H : Hp} {a : Addr} {o : HO} : upd H a o a = some o := by unfold upd; rw [if_pos rfl]
theorem upd_ne {H : Hp} {a b : Addr} {o : HO} (h : b ≠ a) : upd H a o b = H b := by unfold upd; rw [if_neg h]
theorem ne_of {H : Hp} {a b : Addr} {o u : HO} (h : H a = some o) (h' : H b = some u) (d : o ≠ u) : a ≠ b := by
  intro e; subst e; rw [h] at h'; exact d (Option.some.inj h')
theorem ne_of_none {H : Hp} {a b : Addr} {o : HO} (h : H a = some o) (h' : H b = none) : a ≠ b := by
  intro e; subst e; rw [h] at h'; cases h'

section
variable (P : Program) (w : World)
def ObjOk (H : Hp) (h : Heap) (a : Addr) : HO → Prop
  | .lst xs => xs.length ≤ sizeLine ∧ ∃ (its : List Value) (n : Nat), Vals xs its ∧ h.get? a = some { cls := .type "list", data := .seq its.toArray n }
  | .tup xs => xs.length ≤ sizeLine ∧ ∃ its : List Value, Vals xs its ∧ IsTup h a its.toArray
  | .dK kvs => kvs.length ≤ sizeLine ∧ (a == sysModules) = false ∧ ∃ vs, KV kvs vs ∧ h.DictOf (mixKind P w) a vs
  | .dT kvs => kvs.length ≤ sizeLine ∧ (a == sysModules) = false ∧ ∃ xs : List (List Key × Addr × Value),
      Paired (fun (p : List Key × V) (q : List Key × Addr × Value) => p.1 = q.1 ∧ H q.2.1 = some (.tup (p.1.map kV)) ∧ RelV p.2 q.2.2) kvs xs ∧
      ∃ o es ep, h.get? a = some o ∧ o.ExactDict ∧ o.data = .dict es ep ∧ es.toList = xs.map (entryOfKey (tupleKind (mixKind P w))) ∧ (xs.map (·.1)).Nodup
  | .set S n => h.SetOf (intKind P w) a S n
  | .ins C dx fs => H dx = some (.own a) ∧ fs.length ≤ 1000 ∧ dx ≠ a ∧ h.get? a = some (PySem.W.instObj C dx) ∧
      ∃ mA, h.Ns1 dx mA ∧ (∀ f, RelO (fs.lookup f) (mA f)) ∧ PySem.Within mA (fs.map (·.1))
  | .own _ => ∃ o, h.get? a = some o
  | .xd fs => ∃ mA, h.Ns1 a mA ∧ ∀ f, RelO (fs.lookup f) (mA f)
  | .rng lo hi => ∃ t u v, h.get? a = some { cls := .type "range", data := .fields #[.int lo t, .int hi u, .int 1 v] }
  | .frz o u => h.get? a = some o ∧ ObjOk H h a u
  | .tbl ps => h.get? a = some { cls := .none, data := .fields ps }
  | .met f x => h.get? a = some (PySem.W.methodObj (.ref f) (.ref x))
  | .ext φ => φ h ∧ (∃ o, h.get? a = some o) ∧ ∀ h1 h2 : Heap, φ h1 → (∀ o, h1.get? a = some o → h2.get? a = some o) → φ h2
def HOk (H : Hp) (h : Heap) : Prop := ∀ a o, H a = some o → ObjOk P w H h a o
end

section
variable {P : Program} {w : World} {H H' : Hp} {h h' : Heap} {a : Addr} {o : HO}
theorem ObjOk.lt (x : ObjOk P w H h a o) : a < h.objs.size := by
  cases o with
  | lst xs => obtain ⟨_, _, _, _, e⟩ := x; exact Heap.lt_size e
  | tup xs => obtain ⟨_, _, _, p⟩ := x; exact p.lt
  | dK kvs => obtain ⟨_, _, _, _, o, _, _, e, _⟩ := x; exact Heap.lt_size e
  | dT kvs => obtain ⟨_, _, _, _, o, _, _, e, _⟩ := x; exact Heap.lt_size e
  | set S n => obtain ⟨o, _, _, _, e, _⟩ := x; exact Heap.lt_size e
  | ins C dx fs => obtain ⟨_, _, _, e, _⟩ := x; exact Heap.lt_size e
  | own y => obtain ⟨_, e⟩ := x; exact Heap.lt_size e
  | xd fs => obtain ⟨_, ⟨_, _, _, e, _⟩, _⟩ := x; exact Heap.lt_size e
  | rng lo hi => obtain ⟨_, _, _, e⟩ := x; exact Heap.lt_size e
  | frz ob u => obtain ⟨e, _⟩ := x; exact Heap.lt_size e
  | tbl ps => exact Heap.lt_size (show h.get? a = some _ from x)
  | met f y => exact Heap.lt_size (show h.get? a = some _ from x)
  | ext φ => obtain ⟨_, ⟨_, e⟩, _⟩ := x; exact Heap.lt_size e
theorem Paired.mapP {α β : Type} {F G : α → β → Prop} : ∀ {l₁ : List α} {l₂ : List β}, Paired F l₁ l₂ → (∀ a b, F a b → G a b) → Paired G l₁ l₂
  | _, _, .nil, _ => .nil
  | _, _, .cons r t, f => .cons (f _ _ r) (Paired.mapP t f)
theorem ObjOk.stay (x : ObjOk P w H h a o) (k : ∀ b u, (b = a ∨ H b = some (.own a)) → h.get? b = some u → h'.get? b = some u)
    (ho : ∀ b, H b = some (.own a) → H' b = some (.own a)) (ht : ∀ b xs, H b = some (.tup xs) → H' b = some (.tup xs)) : ObjOk P w H' h' a o := by
  induction o with
  | lst xs => obtain ⟨z, its, n, r, e⟩ := x; exact ⟨z, its, n, r, k _ _ (.inl rfl) e⟩
  | tup xs => obtain ⟨z, its, r, ob, e, c⟩ := x; exact ⟨z, its, r, ob, k _ _ (.inl rfl) e, c⟩
  | dK kvs => obtain ⟨z, y, vs, r, ob, es, ep, e, c⟩ := x; exact ⟨z, y, vs, r, ob, es, ep, k _ _ (.inl rfl) e, c⟩
  | dT kvs =>
    obtain ⟨z, y, xs, r, ob, es, ep, e, c⟩ := x
    exact ⟨z, y, xs, Paired.mapP r fun p q z => ⟨z.1, ht _ _ z.2.1, z.2.2⟩, ob, es, ep, k _ _ (.inl rfl) e, c⟩
  | set S n => obtain ⟨ob, es, ep, t, e, c⟩ := x; exact ⟨ob, es, ep, t, k _ _ (.inl rfl) e, c⟩
  | ins C dx fs =>
    obtain ⟨d, z, ne, e, mA, ⟨od, es, ep, e2, c⟩, r⟩ := x
    exact ⟨ho _ d, z, ne, k _ _ (.inl rfl) e, mA, ⟨od, es, ep, k _ _ (.inr d) e2, c⟩, r⟩
  | own y => obtain ⟨ob, e⟩ := x; exact ⟨ob, k _ _ (.inl rfl) e⟩
  | xd fs => obtain ⟨mA, ⟨od, es, ep, e, c⟩, r⟩ := x; exact ⟨mA, ⟨od, es, ep, k _ _ (.inl rfl) e, c⟩, r⟩
  | rng lo hi => obtain ⟨t, u, v, e⟩ := x; exact ⟨t, u, v, k _ _ (.inl rfl) e⟩
  | frz ob u ih => obtain ⟨e, q⟩ := x; exact ⟨k _ _ (.inl rfl) e, ih q⟩
  | tbl ps =>
    have e : h.get? a = some { cls := .none, data := .fields ps } := x
    show h'.get? a = some { cls := .none, data := .fields ps }
    exact k a _ (.inl rfl) e
  | met f y =>
    have e : h.get? a = some (PySem.W.methodObj (.ref f) (.ref y)) := x
    show h'.get? a = some (PySem.W.methodObj (.ref f) (.ref y))
    exact k a _ (.inl rfl) e
  | ext φ => obtain ⟨p, ⟨o, e⟩, st⟩ := x; exact ⟨st _ _ p fun o q => k _ _ (.inl rfl) q, ⟨o, k _ _ (.inl rfl) e⟩, st⟩
theorem HOk.lt (x : HOk P w H h) (e : H a = some o) : a < h.objs.size := (x a o e).lt
theorem HOk.fresh (x : HOk P w H h) (e : h.objs.size ≤ a) : H a = none := by
  cases q : H a with
  | none => rfl
  | some u => exact absurd (Nat.lt_of_lt_of_le (x.lt q) e) (Nat.lt_irrefl _)
theorem HOk.kept (x : HOk P w H h) (k : ∀ b u, h.get? b = some u → h'.get? b = some u) : HOk P w H h' := fun a o e =>
  (x a o e).stay (fun b u _ q => k b u q) (fun _ q => q) fun _ _ q => q
theorem HOk.laid (x : HOk P w H h) (k : ∀ b u, h.get? b = some u → h'.get? b = some u) (hp : h.objs.size ≤ a) (new : ObjOk P w (upd H a o) h' a o) : HOk P w (upd H a o) h' := fun b u e => by
  have hn := x.fresh hp
  by_cases hb : b = a
  · subst hb; rw [upd_same] at e; cases e; exact new
  · rw [upd_ne hb] at e
    exact (x b u e).stay (fun c v _ q => k c v q) (fun c q => by rw [upd_ne (ne_of_none q hn)]; exact q) fun c xs q => by rw [upd_ne (ne_of_none q hn)]; exact q
end

def Rd (H : Hp) (a : Addr) (u : HO) : Prop := H a = some u ∨ ∃ o, H a = some (.frz o u)
theorem Rd.ok {P : Program} {w : World} {H : Hp} {h : Heap} {a : Addr} {u : HO} (r : Rd H a u) (x : HOk P w H h) : ObjOk P w H h a u := by
  rcases r with r | ⟨o, r⟩
  · exact x a u r
  · obtain ⟨_, q⟩ := x a _ r
    exact q
def Mut : Option HO → Prop
  | some (.lst _) => True
  | some (.dK _) => True
  | some (.dT _) => True
  | some (.set _ _) => True
  | some (.ins _ _ _) => True
  | some (.ext _) => True
  | _ => False
section
variable {P : Program} {w : World} {H : Hp} {h h' : Heap} {x e : Addr} {o' : HO}
theorem HOk.write (ok : HOk P w H h) (mu : Mut (H x)) (he : e = x ∨ H e = some (.own x)) (k : ∀ b u, b ≠ e → h.get? b = some u → h'.get? b = some u) (heo : ∃ u, h'.get? e = some u)
    (new : ObjOk P w (upd H x o') h' x o') : HOk P w (upd H x o') h' := fun b u q => by
  have nown : ∀ c y, H c = some (.own y) → c ≠ x := fun c y r z => by subst z; rw [r] at mu; exact mu
  have ntup : ∀ c xs, H c = some (.tup xs) → c ≠ x := fun c xs r z => by subst z; rw [r] at mu; exact mu
  by_cases hb : b = x
  · subst hb; rw [upd_same] at q; cases q; exact new
  · rw [upd_ne hb] at q
    by_cases hbe : b = e
    · have q' : H b = some (.own x) := by
        rcases he with z | z
        · exact absurd (hbe.trans z) hb
        · rw [hbe]; exact z
      rw [q] at q'; cases q'
      obtain ⟨v, hv⟩ := heo
      exact ⟨v, by rw [hbe]; exact hv⟩
    · refine (ok b u q).stay (fun c v hc r => k c v ?_ r) (fun c r => by rw [upd_ne (nown c b r)]; exact r) fun c xs r => by rw [upd_ne (ntup c xs r)]; exact r
      rcases hc with rfl | hc
      · exact hbe
      · rintro rfl
        rcases he with z | z
        · exact nown c b hc z
        · rw [hc] at z; cases z; exact hb rfl
end

/-! ### kept unless tracked; of the frames at fs (the callers') the slots may change (an exception that passes writes there); of the records at ex (iterators) nothing is said -/
structure Un (fs ex : List Addr) (H H' : Hp) (h h' : Heap) : Prop where
  keep : ∀ b o, h.get? b = some o → H b = none → b ∉ fs → b ∉ ex → h'.get? b = some o
  slot : ∀ b o, h.get? b = some o → H b = none → b ∈ fs → b ∉ ex → ∃ sl, h'.get? b = some { o with slots := sl }
  free : ∀ b o, h.get? b = some o → H b = none → b ∉ ex → H' b = none
  there : ∀ b o, h.get? b = some o → b ∉ ex → ∃ o', h'.get? b = some o'
  tups : ∀ b xs, H b = some (.tup xs) → H' b = some (.tup xs)
  frzs : ∀ b o u, H b = some (.frz o u) → H' b = some (.frz o u)
  tbls : ∀ b ps, H b = some (.tbl ps) → ∃ more, H' b = some (.tbl (ps ++ more))
section
variable {fs fs' ex ex' : List Addr} {H H1 H2 : Hp} {h h1 h2 h' : Heap} {a x e : Addr} {o : HO}
theorem Un.any (u : Un fs ex H H1 h h1) {b : Addr} {ob : Obj} (q : h.get? b = some ob) (n : H b = none) (hx : b ∉ ex) : ∃ sl, h1.get? b = some { ob with slots := sl } := by
  by_cases hb : b ∈ fs
  · exact u.slot b ob q n hb hx
  · exact ⟨ob.slots, u.keep b ob q n hb hx⟩
theorem Un.kept (k : ∀ b u, h.get? b = some u → h'.get? b = some u) : Un fs ex H H h h' :=
  ⟨fun b ob q _ _ _ => k b ob q, fun b ob q _ _ _ => ⟨ob.slots, k b ob q⟩, fun _ _ _ n _ => n, fun b ob q _ => ⟨ob, k b ob q⟩, fun _ _ q => q, fun _ _ _ q => q, fun _ ps q => ⟨#[], by rw [q]; simp⟩⟩
theorem Un.refl : Un fs ex H H h h := Un.kept fun _ _ q => q
theorem Un.laid (k : ∀ b u, h.get? b = some u → h'.get? b = some u) (hp : h.objs.size ≤ a) (hn : H a = none) : Un fs ex H (upd H a o) h h' where
  keep := fun b u q _ _ _ => k b u q
  slot := fun b u q _ _ _ => ⟨u.slots, k b u q⟩
  free := fun b u q n _ => by rw [upd_ne (Nat.ne_of_lt (Nat.lt_of_lt_of_le (Heap.lt_size q) hp))]; exact n
  there := fun b u q _ => ⟨u, k b u q⟩
  tups := fun b xs q => by rw [upd_ne (ne_of_none q hn)]; exact q
  frzs := fun b u xs q => by rw [upd_ne (ne_of_none q hn)]; exact q
  tbls := fun b ps q => ⟨#[], by rw [upd_ne (ne_of_none q hn), q]; simp⟩
theorem Un.write (mu : Mut (H x)) (he : e = x ∨ H e = some (.own x)) (k : ∀ b u, b ≠ e → h.get? b = some u → h'.get? b = some u) (heo : ∃ u, h'.get? e = some u) : Un fs ex H (upd H x o) h h' := by
  have hx : ∀ b, H b = none → b ≠ x := fun b n z => by subst z; rw [n] at mu; exact mu
  have hb : ∀ b, H b = none → b ≠ e := fun b n z => by
    subst z
    rcases he with r | r
    · exact hx b n r
    · rw [n] at r; cases r
  have hm : ∀ b u, H b = some u → ¬ Mut (some u) → b ≠ x := fun b u q nm z => by subst z; rw [q] at mu; exact nm mu
  refine ⟨fun b u q n _ _ => k b u (hb b n) q, fun b u q n _ _ => ⟨u.slots, k b u (hb b n) q⟩, fun b u q n _ => by rw [upd_ne (hx b n)]; exact n, fun b u q _ => ?_,
    fun b xs q => by rw [upd_ne (hm b _ q fun z => z)]; exact q, fun b u xs q => by rw [upd_ne (hm b _ q fun z => z)]; exact q, fun b ps q => ⟨#[], by rw [upd_ne (hm b _ q fun z => z), q]; simp⟩⟩
  by_cases hbe : b = e
  · subst hbe; exact heo
  · exact ⟨u, k b u hbe q⟩
end

/-! ### the heap without what is tracked -/
def trk (h : Heap) (H : Hp) : List Addr := (List.range h.objs.size).filter fun a => (H a).isSome
def hidT (h : Heap) (H : Hp) : Heap := PySem.W.hideAll h (trk h H)
theorem hidT_size (h : Heap) (H : Hp) : (hidT h H).objs.size = h.objs.size := PySem.W.hideAll_size _ _
theorem hidT_get {h : Heap} {H : Hp} {b : Addr} {o : Obj} (e : h.get? b = some o) (n : H b = none) : (hidT h H).get? b = some o :=
  PySem.W.hideAll_get _ e fun hm => by
    have q : (H b).isSome = true := (List.mem_filter.mp hm).2
    rw [n] at q; simp at q
theorem of_hidT {h : Heap} {H : Hp} {b : Addr} {o : Obj} (e : (hidT h H).get? b = some o) : h.get? b = some o ∧ H b = none := by
  have e' : h.get? b = some o := PySem.W.of_hideAll (trk h H) e
  refine ⟨e', ?_⟩
  cases q : H b with
  | none => rfl
  | some x =>
    have hm : b ∈ trk h H := List.mem_filter.mpr ⟨List.mem_range.mpr (Heap.lt_size e'), by simp [q]⟩
    have z : (hidT h H).get? b = none := PySem.W.hideAll_none (trk h H) hm
    rw [z] at e; cases e

/-! ### OpenK's ledger, filled with every new object but one -/
def allNews (g h : Heap) (L : Addr) : List (Addr × Obj) := (List.range h.objs.size).filterMap fun a => if a = L ∨ (g.get? a).isSome = true then none else (h.get? a).map fun o => (a, o)
def rest (g h : Heap) (L d : Addr) : List (Addr × Obj) := (allNews g h L).filter fun p => decide (p.1 ≠ d)
end L2

namespace L2
open PySem PySem.Spec PyProof.Rows

structure Mod (K : PySem.W.Frag) (mg : Str → Option Value) (base : Heap) : Prop where
  kin : K.In base
  glob : base.Ns mainGlobals mg
  blt : ∃ mb, base.Ns builtinsNs mb ∧ ∀ x : Str, x ≠ "__name__" → mb x = bootBuiltins x
  nolimit : base.NoLimit

/-- the context: a def's body (or a comprehension's block) running. base: fixed through the whole law; s₀, H₀: the entry; outer: the frames whose slots others may change (a def's callers); stack: all frames that run;
   ex: iterators that were made ahead of the entry and are walked here (a comprehension's); fn: the names whose cells were made at the entry (a def: all; a comprehension's block: its own); calm: not within an except suite; pn: pins that every state bears; xe: what is wanted of an exception that leaves the code -/
structure Cx where
  prog : Program
  w : World
  K : PySem.W.Frag
  mg : Str → Option Value
  base : Heap
  A : Around
  N : List Str
  s₀ : Shared
  H₀ : Hp
  env : Env
  outer : List Env
  stack : List Env
  ex : List Addr
  fn : Str → Bool
  calm : Bool
  pn : List (Addr × Obj)
  xe : Value → Shared → Prop
def frs (l : List Env) : List Addr := l.filterMap (·.frame)
abbrev Cx.fs (X : Cx) : List Addr := frs X.outer

def Vis (sc : Scope) (x : Str) : Prop := sc.names.lookup x = some .local ∨ sc.names.lookup x = some .cell ∨ sc.names.lookup x = some .free
def Loc (sc : Scope) (x : Str) : Prop := sc.names.lookup x = some .local ∨ sc.names.lookup x = some .cell
def Look (env : Env) (h : Heap) (m : Str → Option Value) (x : Str) (u : Value) : Prop :=
  (env.kindOf x = some .local ∧ m x = some u) ∨ ((env.kindOf x = some .cell ∨ env.kindOf x = some .free) ∧ ∃ c, env.cells.lookup x = some c ∧ h.IsCell c (some u))

structure Cx.Ok (X : Cx) : Prop where
  mod : Mod X.K X.mg X.base
  kind : X.env.scope.kind = .function
  glob : X.env.globals = mainGlobals
  blt : X.env.builtins = builtinsNs
  above : X.s₀.heap.objs.size ≤ X.env.locals
  inj : ∀ x y c, X.env.cells.lookup x = some c → X.env.cells.lookup y = some c → x = y
  has : ∀ x, (X.env.kindOf x = some .cell ∨ X.env.kindOf x = some .free) → ∃ c, X.env.cells.lookup x = some c
  cab : ∀ x c, X.fn x = true → X.env.cells.lookup x = some c → X.s₀.heap.objs.size ≤ c
  hd : X.calm = true → X.A.handled = none
  frames : X.A.frames = some X.stack
  stk : X.stack = X.outer ∨ (X.stack = X.env :: X.outer ∧ X.env.frame = some X.env.locals)
  exf : ∀ b ∈ X.ex, b ≠ X.env.locals ∧ ∀ x c, X.env.cells.lookup x = some c → c ≠ b
  bs : ∀ b o, X.base.get? b = some o → X.s₀.heap.get? b = some o ∧ X.H₀ b = none
  bsz : X.base.objs.size ≤ X.s₀.heap.objs.size
  noex : ∀ b o, X.base.get? b = some o → b ∉ X.ex
  exfs : ∀ b ∈ X.ex, b ∉ X.fs
  funs : X.s₀.heap.FunFrames X.base X.outer
  frf : ∀ b ∈ X.fs, X.H₀ b = none

structure Inv (X : Cx) (pins : List (Addr × Obj)) (σ : List (Option V)) (H : Hp) (s : Shared) : Prop where
  ok : X.Ok
  os : s.os = X.s₀.os
  bare : AllBare s.gens
  base : Un X.fs X.ex X.H₀ H X.s₀.heap s.heap
  loc : ∃ m, s.heap.Ns X.env.locals m ∧ ∀ (i : Nat) (x : Str) (v : V), X.N[i]? = some x → σ[i]? = some (some v) → Vis X.env.scope x → ∃ u, RelV v u ∧ Look X.env s.heap m x u
  cell : ∀ x c, X.env.cells.lookup x = some c → ∃ v, s.heap.IsCell c v
  free : H X.env.locals = none
  freeC : ∀ x c, X.env.cells.lookup x = some c → H c = none
  pin : ∀ p ∈ X.pn ++ pins, s.heap.get? p.1 = some p.2 ∧ H p.1 = none ∧ p.1 ≠ X.env.locals ∧ p.1 ∉ X.fs ∧ ∀ v, p.2.data ≠ .cell v
  hok : HOk X.prog X.w H s.heap
  len : σ.length = X.N.length

section
variable {X : Cx} {pins : List (Addr × Obj)} {σ : List (Option V)} {H H' : Hp} {s : Shared} {h' : Heap}

theorem Cx.Ok.nofr (ok : X.Ok) {b : Addr} {o : Obj} (e : X.base.get? b = some o) : b ∉ X.fs := fun hb => by
  have := (ok.funs.mem hb).1
  rw [e] at this; cases this
theorem Inv.bs (I : Inv X pins σ H s) : ∀ b o, X.base.get? b = some o → s.heap.get? b = some o ∧ H b = none := fun b o e =>
  ⟨I.base.keep b o (I.ok.bs b o e).1 (I.ok.bs b o e).2 (I.ok.nofr e) (I.ok.noex b o e), I.base.free b o (I.ok.bs b o e).1 (I.ok.bs b o e).2 (I.ok.noex b o e)⟩
theorem Inv.bk (I : Inv X pins σ H s) : ∀ b o, X.base.get? b = some o → s.heap.get? b = some o := fun b o e => (I.bs b o e).1
theorem Inv.mod (I : Inv X pins σ H s) : Mod X.K X.mg X.base := I.ok.mod
theorem Inv.kIn (I : Inv X pins σ H s) : X.K.In s.heap := I.ok.mod.kin.keeps I.bk
theorem Inv.lt (I : Inv X pins σ H s) : X.env.locals < s.heap.objs.size := let ⟨_, hn, _⟩ := I.loc; hn.lt
theorem Inv.sz (I : Inv X pins σ H s) : X.s₀.heap.objs.size ≤ s.heap.objs.size := Nat.le_trans I.ok.above (Nat.le_of_lt I.lt)
theorem Inv.nofs (I : Inv X pins σ H s) {a : Addr} (h : s.heap.objs.size ≤ a) : a ∉ X.fs := fun hb => by
  obtain ⟨_, o, ho, _⟩ := I.ok.funs.mem hb
  exact absurd (Nat.lt_of_lt_of_le (Heap.lt_size ho) (Nat.le_trans I.sz h)) (Nat.lt_irrefl _)
theorem Inv.cne (I : Inv X pins σ H s) : ∀ x c, X.env.cells.lookup x = some c → c ≠ X.env.locals := fun x c e z => by
  obtain ⟨v, o, ho, hd⟩ := I.cell x c e
  obtain ⟨m, ⟨o', es, ep, ho', hd', _⟩, _⟩ := I.loc
  rw [z, ho'] at ho; cases ho; rw [hd'] at hd; cases hd
theorem Inv.funs (I : Inv X pins σ H s) : s.heap.FunFrames X.base X.outer := by
  have all : ∀ (l : List Env), (∀ b ∈ frs l, b ∈ X.fs) → X.s₀.heap.FunFrames X.base l → s.heap.FunFrames X.base l := by
    intro l
    induction l with
    | nil => intro _ _; trivial
    | cons env r ih =>
      intro hs hl
      obtain ⟨hk, ⟨L, o, hf, hn, ho, hd⟩, hr⟩ := hl
      have hL : L ∈ X.fs := hs L (by unfold frs; rw [List.filterMap_cons, hf]; exact List.mem_cons_self)
      obtain ⟨sl, e⟩ := I.base.slot L o ho (I.ok.frf L hL) hL fun z => I.ok.exfs L z hL
      exact ⟨hk, ⟨L, _, hf, hn, e, hd⟩, ih (fun b hb => hs b (by unfold frs; rw [List.filterMap_cons, hf]; exact List.mem_cons_of_mem _ hb)) hr⟩
  exact all X.outer (fun _ hb => hb) I.ok.funs

theorem Inv.stack (I : Inv X pins σ H s) : s.heap.FunFrames X.base X.stack := by
  rcases I.ok.stk with e | ⟨e, hf⟩
  · rw [e]; exact I.funs
  · rw [e]
    obtain ⟨m, hn, _⟩ := I.loc
    refine .cons (by rw [I.ok.kind]; decide) hf hn ?_ I.funs
    exact Heap.get?_none_of_le (Nat.le_trans I.ok.bsz I.ok.above)
theorem Inv.stkSub (I : Inv X pins σ H s) : ∀ b ∈ frs X.stack, b ∈ X.env.locals :: X.fs := fun b hb => by
  rcases I.ok.stk with e | ⟨e, hf⟩
  · rw [e] at hb; exact List.mem_cons_of_mem _ hb
  · rw [e] at hb
    unfold frs at hb
    rw [List.filterMap_cons, hf] at hb
    exact hb
theorem Inv.stkFree (I : Inv X pins σ H s) : ∀ b ∈ frs X.stack, H b = none := fun b hb => by
  rcases List.mem_cons.mp (I.stkSub b hb) with e | hb
  · rw [e]; exact I.free
  · obtain ⟨_, o, ho, _⟩ := I.ok.funs.mem hb
    exact I.base.free b o ho (I.ok.frf b hb) fun z => I.ok.exfs b z hb

theorem Inv.step {g' : Array GenState} {t' : Nat} {d' : Drawn} {ch : List Addr} (I : Inv X pins σ H s)
    (hch : ∀ b ∈ ch, (b ∈ X.ex ∨ X.s₀.heap.objs.size ≤ b) ∧ b ≠ X.env.locals ∧ (∀ x c, X.env.cells.lookup x = some c → c ≠ b) ∧ ∀ p ∈ X.pn ++ pins, p.1 ≠ b)
    (keep : ∀ b o, b ≠ X.env.locals → b ∉ X.fs → b ∉ ch → s.heap.get? b = some o → H b = none → h'.get? b = some o)
    (slot : ∀ b o, b ≠ X.env.locals → b ∈ X.fs → b ∉ ch → s.heap.get? b = some o → H b = none → ∃ sl, h'.get? b = some { o with slots := sl }) (free : ∀ b o, b ∉ ch → s.heap.get? b = some o → H b = none → H' b = none)
    (there : ∀ b o, b ∉ ch → s.heap.get? b = some o → ∃ o', h'.get? b = some o')
    (tups : ∀ b xs, H b = some (.tup xs) → H' b = some (.tup xs)) (frzs : ∀ b o u, H b = some (.frz o u) → H' b = some (.frz o u)) (tbls : ∀ b ps, H b = some (.tbl ps) → ∃ more, H' b = some (.tbl (ps ++ more)))
    (ns : ∀ m, s.heap.Ns X.env.locals m → h'.Ns X.env.locals m) (hok : HOk X.prog X.w H' h') (hg : AllBare g') :
    Inv X pins σ H' { s with heap := h', gens := g', drawn := d', toks := t' } := by
  have neL : ∀ b o, X.s₀.heap.get? b = some o → b ≠ X.env.locals := fun b o e => Nat.ne_of_lt (Nat.lt_of_lt_of_le (Heap.lt_size e) I.ok.above)
  have neC : ∀ b o, X.s₀.heap.get? b = some o → b ∉ X.ex → b ∉ ch := fun b o e hx hb => by
    rcases (hch b hb).1 with z | z
    · exact hx z
    · exact absurd (Nat.lt_of_lt_of_le (Heap.lt_size e) z) (Nat.lt_irrefl _)
  have cellK : ∀ x c, X.env.cells.lookup x = some c → ∀ v, s.heap.IsCell c v → h'.IsCell c v := fun x c e v ⟨o, ho, hd⟩ => by
    have nch : c ∉ ch := fun z => (hch c z).2.2.1 x c e rfl
    by_cases hc : c ∈ X.fs
    · obtain ⟨sl, q⟩ := slot c o (I.cne x c e) hc nch ho (I.freeC x c e)
      exact ⟨_, q, hd⟩
    · exact ⟨o, keep c o (I.cne x c e) hc nch ho (I.freeC x c e), hd⟩
  refine ⟨I.ok, I.os, hg, ⟨fun b o e n hb hx => ?_, fun b o e n hb hx => ?_, fun b o e n hx => ?_, fun b o e hx => ?_, fun b xs e => tups b xs (I.base.tups b xs e), fun b o xs e => frzs b o xs (I.base.frzs b o xs e), fun b ps e => ?_⟩, ?_, fun x c e => ?_, ?_, fun x c e => ?_, fun p hp => ?_, hok, I.len⟩
  · exact keep b o (neL b o e) hb (neC b o e hx) (I.base.keep b o e n hb hx) (I.base.free b o e n hx)
  · obtain ⟨sl, e1⟩ := I.base.slot b o e n hb hx
    obtain ⟨sl', e2⟩ := slot b _ (neL b o e) hb (neC b o e hx) e1 (I.base.free b o e n hx)
    exact ⟨sl', e2⟩
  · obtain ⟨o', e1⟩ := I.base.there b o e hx
    exact free b o' (neC b o e hx) e1 (I.base.free b o e n hx)
  · obtain ⟨o', e1⟩ := I.base.there b o e hx
    exact there b o' (neC b o e hx) e1
  · obtain ⟨m1, e1⟩ := I.base.tbls b ps e
    obtain ⟨m2, e2⟩ := tbls b _ e1
    exact ⟨m1 ++ m2, by rw [e2, Array.append_assoc]⟩
  · obtain ⟨m, hn, hl⟩ := I.loc
    refine ⟨m, ns m hn, fun i x v e1 e2 e3 => ?_⟩
    obtain ⟨u, r, l⟩ := hl i x v e1 e2 e3
    refine ⟨u, r, ?_⟩
    rcases l with l | ⟨k, c, e, z⟩
    · exact .inl l
    · exact .inr ⟨k, c, e, cellK x c e _ z⟩
  · obtain ⟨v, z⟩ := I.cell x c e
    exact ⟨v, cellK x c e v z⟩
  · obtain ⟨m, ⟨o, _, _, ho, _⟩, _⟩ := I.loc
    exact free _ o (fun z => (hch _ z).2.1 rfl) ho I.free
  · obtain ⟨v, o, ho, hd⟩ := I.cell x c e
    exact free c o (fun z => (hch c z).2.2.1 x c e rfl) ho (I.freeC x c e)
  · obtain ⟨e, n, ne, nf, d⟩ := I.pin p hp
    have nch : p.1 ∉ ch := fun z => (hch p.1 z).2.2.2 p hp rfl
    exact ⟨keep p.1 p.2 ne nf nch e n, free p.1 p.2 nch e n, ne, nf, d⟩
theorem Inv.un {t' : Nat} (I : Inv X pins σ H s) (u : Un X.fs [] H H' s.heap h') (hok : HOk X.prog X.w H' h') : Inv X pins σ H' { s with heap := h', toks := t' } := by
  obtain ⟨m, ⟨o, es, ep, ho, r⟩, _⟩ := id I.loc
  obtain ⟨sl, hL⟩ := u.any ho I.free (by simp)
  exact I.step (g' := s.gens) (d' := s.drawn) (ch := []) (fun _ z => nomatch z) (fun b o _ hb _ e n => u.keep b o e n hb (by simp)) (fun b o _ hb _ e n => u.slot b o e n hb (by simp)) (fun b o _ e n => u.free b o e n (by simp)) (fun b o _ e => u.there b o e (by simp)) u.tups u.frzs u.tbls (fun m' hm => by
    obtain ⟨o', es', ep', ho', r'⟩ := hm
    rw [ho] at ho'; cases ho'
    exact ⟨_, es', ep', hL, r'⟩) hok I.bare
theorem Inv.call {g' : Array GenState} {t' : Nat} {d' : Drawn} {ch : List Addr} (I : Inv X pins σ H s) (u : Un (frs X.stack) ch H H' s.heap h') (hok : HOk X.prog X.w H' h') (hg : AllBare g')
    (hch : ∀ b ∈ ch, (b ∈ X.ex ∨ X.s₀.heap.objs.size ≤ b) ∧ b ≠ X.env.locals ∧ (∀ x c, X.env.cells.lookup x = some c → c ≠ b) ∧ ∀ p ∈ X.pn ++ pins, p.1 ≠ b) :
    Inv X pins σ H' { s with heap := h', gens := g', drawn := d', toks := t' } := by
  obtain ⟨m, ⟨o, es, ep, ho, r⟩, _⟩ := id I.loc
  obtain ⟨sl, hL⟩ := u.any ho I.free fun z => (hch _ z).2.1 rfl
  exact I.step (ch := ch) hch (fun b o hL hb hc e n => u.keep b o e n (fun z => (List.mem_cons.mp (I.stkSub b z)).elim hL hb) hc) (fun b o _ _ hc e n => u.any e n hc) (fun b o hc e n => u.free b o e n hc) (fun b o hc e => u.there b o e hc) u.tups u.frzs u.tbls (fun m' hm => by
    obtain ⟨o', es', ep', ho', r'⟩ := hm
    rw [ho] at ho'; cases ho'
    exact ⟨_, es', ep', hL, r'⟩) hok hg
theorem Inv.turned {t' : Nat} {it : Addr} (I : Inv X pins σ H s) (k : ∀ b o, b ≠ it → s.heap.get? b = some o → h'.get? b = some o) (hn : H it = none) (hL : it ≠ X.env.locals)
    (h1 : it ∈ X.ex ∨ X.s₀.heap.objs.size ≤ it) (h2 : ∀ x c, X.env.cells.lookup x = some c → c ≠ it) (h3 : ∀ p ∈ X.pn ++ pins, p.1 ≠ it) : Inv X pins σ H { s with heap := h', toks := t' } := by
  have nit : ∀ b u, H b = some u → b ≠ it := fun b u e z => by rw [z, hn] at e; cases e
  refine I.step (g' := s.gens) (d' := s.drawn) (ch := [it]) (fun b hb => ?_) (fun b o _ _ hc e _ => k b o (fun z => hc (by simp [z])) e) (fun b o _ _ hc e _ => ⟨o.slots, k b o (fun z => hc (by simp [z])) e⟩) (fun _ _ _ _ n => n)
    (fun b o hc e => ⟨o, k b o (fun z => hc (by simp [z])) e⟩) (fun _ _ e => e) (fun _ _ _ e => e) (fun b ps e => ⟨#[], by rw [e]; simp⟩) (fun m hm => ?_) (fun b u e => ?_) I.bare
  · have e : b = it := by simpa using hb
    subst e
    exact ⟨h1, hL, h2, h3⟩
  · obtain ⟨o, es, ep, ho, r⟩ := hm
    exact ⟨o, es, ep, k _ o (Ne.symm hL) ho, r⟩
  · refine (I.hok b u e).stay (fun c v hc q => k c v ?_ q) (fun _ q => q) fun _ _ q => q
    rcases hc with z | z
    · rw [z]; exact nit b u e
    · exact nit c _ z
theorem Inv.tok (I : Inv X pins σ H s) (t : Nat) : Inv X pins σ H { s with toks := t } := I.un (h' := s.heap) (t' := t) Un.refl I.hok
theorem Inv.kept {t' : Nat} (I : Inv X pins σ H s) (k : ∀ b u, s.heap.get? b = some u → h'.get? b = some u) : Inv X pins σ H { s with heap := h', toks := t' } := I.un (Un.kept k) (I.hok.kept k)
theorem Inv.laid {a : Addr} {o : HO} {t' : Nat} (I : Inv X pins σ H s) (k : ∀ b u, s.heap.get? b = some u → h'.get? b = some u) (hp : s.heap.objs.size ≤ a) (new : ObjOk X.prog X.w (upd H a o) h' a o) :
    Inv X pins σ (upd H a o) { s with heap := h', toks := t' } := I.un (Un.laid k hp (I.hok.fresh hp)) (I.hok.laid k hp new)
theorem Inv.write {x e : Addr} {o : HO} {t' : Nat} (I : Inv X pins σ H s) (mu : Mut (H x)) (he : e = x ∨ H e = some (.own x)) (k : ∀ b u, b ≠ e → s.heap.get? b = some u → h'.get? b = some u) (heo : ∃ u, h'.get? e = some u)
    (new : ObjOk X.prog X.w (upd H x o) h' x o) : Inv X pins σ (upd H x o) { s with heap := h', toks := t' } := I.un (Un.write mu he k heo) (I.hok.write mu he k heo new)
theorem Inv.pins_of {pins' : List (Addr × Obj)} (I : Inv X pins σ H s) (h : ∀ p ∈ pins', s.heap.get? p.1 = some p.2 ∧ H p.1 = none ∧ p.1 ≠ X.env.locals ∧ p.1 ∉ X.fs ∧ ∀ v, p.2.data ≠ .cell v) : Inv X pins' σ H s :=
  ⟨I.ok, I.os, I.bare, I.base, I.loc, I.cell, I.free, I.freeC, fun p hp => (List.mem_append.mp hp).elim (fun z => I.pin p (List.mem_append_left _ z)) (h p), I.hok, I.len⟩

theorem nodup_ix {N : List Str} (hN : N.Nodup) {i j : Nat} {x : Str} (a : N[i]? = some x) (b : N[j]? = some x) : i = j := by
  obtain ⟨h1, e1⟩ := List.getElem?_eq_some_iff.mp a
  obtain ⟨h2, e2⟩ := List.getElem?_eq_some_iff.mp b
  exact (List.getElem_inj hN).mp (e1.trans e2.symm)

theorem store_ok2 {M : Model} {A : Around} {E : Value → Shared → Prop} {i : Nat} {x : Str} {v : V} {u : Value} {Q : Unit → Shared → Prop} (I : Inv X pins σ H s) (hN : X.N.Nodup) (hi : X.N[i]? = some x) (hx : Loc X.env.scope x) (r : RelV v u)
    (h : ∀ s', Inv X pins (σ.set i (some v)) H s' → (∃ a, Heap.SameBut a s.heap s'.heap ∧ (a = X.env.locals ∨ X.env.cells.lookup x = some a)) → Q () s') (hf : X.fn x = true ∨ X.env.scope.names.lookup x = some .local := by first | exact .inl rfl | exact .inr rfl | assumption) : wpAny M A (storeName X.env x u) Q E s := by
  obtain ⟨m, hn, hl⟩ := id I.loc
  have hcls : (X.env.scope.kind == .class || (X.env.scope.kind == .module && X.env.locals != X.env.globals)) = false := by rw [I.ok.kind]; rfl
  have hiσ : i < σ.length := by rw [I.len]; exact (List.getElem?_eq_some_iff.mp hi).1
  have cne := I.cne
  have tracked : ∀ {a : Addr} {h' : Heap}, (∃ o, s.heap.get? a = some o ∧ H a = none) → Heap.SameBut a s.heap h' → HOk X.prog X.w H h' := fun {a h'} ha hs b ob e => by
    obtain ⟨_, _, hfree⟩ := ha
    refine (I.hok b ob e).stay (fun c w' hc q => (hs.2 c ?_).trans q) (fun _ q => q) fun _ _ q => q
    rintro rfl
    rcases hc with rfl | hc
    · rw [hfree] at e; cases e
    · rw [hfree] at hc; cases hc
  rcases hx with hk | hk
  · refine wpAny_storeName_local hk hn (fun h' hn' hs => ?_) hcls
    obtain ⟨oL, _, _, hoL, _⟩ := id hn
    refine h _ ⟨I.ok, I.os, I.bare, ⟨fun b o e n hb hx => ?_, fun b o e n hb hx => ?_, I.base.free, fun b o e hx => ?_, I.base.tups, I.base.frzs, I.base.tbls⟩, ⟨_, hn', fun j y v' e1 e2 e3 => ?_⟩, fun y c e => ?_, I.free, I.freeC, fun p hp => ?_, tracked ⟨oL, hoL, I.free⟩ hs, by simpa using I.len⟩ ⟨_, hs, .inl rfl⟩
    · exact (hs.2 b (Nat.ne_of_lt (Nat.lt_of_lt_of_le (Heap.lt_size e) I.ok.above))).trans (I.base.keep b o e n hb hx)
    · obtain ⟨sl, e1⟩ := I.base.slot b o e n hb hx
      exact ⟨sl, (hs.2 b (Nat.ne_of_lt (Nat.lt_of_lt_of_le (Heap.lt_size e) I.ok.above))).trans e1⟩
    · obtain ⟨o', e1⟩ := I.base.there b o e hx
      exact ⟨o', (hs.2 b (Nat.ne_of_lt (Nat.lt_of_lt_of_le (Heap.lt_size e) I.ok.above))).trans e1⟩
    · by_cases hj : j = i
      · subst hj
        rw [hi] at e1; cases e1
        rw [List.getElem?_set_self hiσ] at e2
        cases e2
        exact ⟨u, r, .inl ⟨hk, by simp⟩⟩
      · rw [List.getElem?_set_ne (Ne.symm hj)] at e2
        obtain ⟨u', r', q⟩ := hl j y v' e1 e2 e3
        refine ⟨u', r', ?_⟩
        rcases q with ⟨k, e⟩ | ⟨k, c, e, z⟩
        · refine .inl ⟨k, ?_⟩
          have : y ≠ x := fun e => hj (nodup_ix hN e1 (e ▸ hi))
          simp [this, e]
        · exact .inr ⟨k, c, e, z.sameBut hs (cne y c e)⟩
    · obtain ⟨w', z⟩ := I.cell y c e
      exact ⟨w', z.sameBut hs (cne y c e)⟩
    · obtain ⟨e, n, ne, nf, d⟩ := I.pin p hp
      exact ⟨(hs.2 p.1 ne).trans e, n, ne, nf, d⟩
  · have hfn : X.fn x = true := by
      rcases hf with z | z
      · exact z
      · rw [z] at hk; cases hk
    obtain ⟨c, hc⟩ := I.ok.has x (.inl hk)
    obtain ⟨w', z⟩ := I.cell x c hc
    refine wpAny_storeName_cell I.ok.kind hk hc z (fun h' hc' hs => ?_)
    obtain ⟨oc, hoc, hocd⟩ := id z
    refine h { s with heap := h' } ⟨I.ok, I.os, I.bare, ⟨fun b o e n hb hx => ?_, fun b o e n hb hx => ?_, I.base.free, fun b o e hx => ?_, I.base.tups, I.base.frzs, I.base.tbls⟩, ⟨m, hn.sameBut hs (Ne.symm (cne x c hc)), fun j y v' e1 e2 e3 => ?_⟩, fun y c' e => ?_, I.free, I.freeC, fun p hp => ?_, tracked ⟨oc, hoc, I.freeC x c hc⟩ hs, by simpa using I.len⟩ ⟨c, hs, .inr hc⟩
    · exact (hs.2 b (Nat.ne_of_lt (Nat.lt_of_lt_of_le (Heap.lt_size e) (I.ok.cab x c hfn hc)))).trans (I.base.keep b o e n hb hx)
    · obtain ⟨sl, e1⟩ := I.base.slot b o e n hb hx
      exact ⟨sl, (hs.2 b (Nat.ne_of_lt (Nat.lt_of_lt_of_le (Heap.lt_size e) (I.ok.cab x c hfn hc)))).trans e1⟩
    · obtain ⟨o', e1⟩ := I.base.there b o e hx
      exact ⟨o', (hs.2 b (Nat.ne_of_lt (Nat.lt_of_lt_of_le (Heap.lt_size e) (I.ok.cab x c hfn hc)))).trans e1⟩
    · by_cases hj : j = i
      · subst hj
        rw [hi] at e1; cases e1
        rw [List.getElem?_set_self hiσ] at e2
        cases e2
        exact ⟨u, r, .inr ⟨.inl hk, c, hc, hc'⟩⟩
      · rw [List.getElem?_set_ne (Ne.symm hj)] at e2
        obtain ⟨u', r', q⟩ := hl j y v' e1 e2 e3
        refine ⟨u', r', ?_⟩
        rcases q with q | ⟨k, c', e, z'⟩
        · exact .inl q
        · refine .inr ⟨k, c', e, z'.sameBut hs ?_⟩
          rintro rfl
          exact hj (nodup_ix hN e1 (I.ok.inj _ _ _ e hc ▸ hi))
    · by_cases hcc : c' = c
      · subst hcc; exact ⟨_, hc'⟩
      · obtain ⟨w2, z2⟩ := I.cell y c' e
        exact ⟨w2, z2.sameBut hs hcc⟩
    · obtain ⟨e, n, ne, nf, d⟩ := I.pin p hp
      refine ⟨(hs.2 p.1 ?_).trans e, n, ne, nf, d⟩
      intro q
      rw [q, hoc] at e
      have q' : oc = p.2 := Option.some.inj e
      exact d w' (by rw [← q']; exact hocd)
theorem store_ok {M : Model} {A : Around} {E : Value → Shared → Prop} {i : Nat} {x : Str} {v : V} {u : Value} {Q : Unit → Shared → Prop} (I : Inv X pins σ H s) (hN : X.N.Nodup) (hi : X.N[i]? = some x) (hx : Loc X.env.scope x) (r : RelV v u)
    (h : ∀ s', Inv X pins (σ.set i (some v)) H s' → Q () s') (hf : X.fn x = true ∨ X.env.scope.names.lookup x = some .local := by first | exact .inl rfl | exact .inr rfl | assumption) : wpAny M A (storeName X.env x u) Q E s :=
  store_ok2 I hN hi hx r (fun s' I' _ => h s' I') hf
theorem Inv.call' {s' : Shared} {ch : List Addr} (I : Inv X pins σ H s) (ho : s'.os = s.os) (u : Un (frs X.stack) ch H H' s.heap s'.heap) (hok : HOk X.prog X.w H' s'.heap) (hg : AllBare s'.gens)
    (hch : ∀ b ∈ ch, (b ∈ X.ex ∨ X.s₀.heap.objs.size ≤ b) ∧ b ≠ X.env.locals ∧ (∀ x c, X.env.cells.lookup x = some c → c ≠ b) ∧ ∀ p ∈ X.pn ++ pins, p.1 ≠ b) : Inv X pins σ H' s' := by
  obtain ⟨h', g', d', t', o'⟩ := s'
  have e : o' = s.os := ho
  subst e
  exact I.call (g' := g') (t' := t') (d' := d') u hok hg hch
end

/-! ### the judgements -/
abbrev XK := Value → Option Addr → Hp → Prop
abbrev St := List (Option V)
abbrev VK := V → Hp → Prop
abbrev TE := St → Hp → VK → Prop
abbrev TT := St → Hp → (Bool → Hp → Prop) → Prop
abbrev TA := St → Hp → (List V → Hp → Prop) → Prop
structure Ends where
  nx : St → Hp → Prop
  rt : VK
  bk : St → Hp → Prop := fun _ _ => False
  ct : St → Hp → Prop := fun _ _ => False
abbrev TS := Ends → St → Hp → Prop

def EP (X : Cx) (pins : List (Addr × Obj)) (σ : St) (Q : VK) (u : Value) (s' : Shared) : Prop := ∃ v H', Inv X pins σ H' s' ∧ RelV v u ∧ Q v H'
def TP (X : Cx) (pins : List (Addr × Obj)) (σ : St) (Q : Bool → Hp → Prop) (b : Bool) (s' : Shared) : Prop := ∃ H', Inv X pins σ H' s' ∧ Q b H'
def AP (X : Cx) (pins : List (Addr × Obj)) (σ : St) (Q : List V → Hp → Prop) (us : List Value) (s' : Shared) : Prop := ∃ vs H', Inv X pins σ H' s' ∧ Vals vs us ∧ Q vs H'
def SP (X : Cx) (pins : List (Addr × Obj)) (D : Ends) (f : Flow) (s' : Shared) : Prop :=
  match f with
  | .next => ∃ σ' H', Inv X pins σ' H' s' ∧ D.nx σ' H'
  | .brk => ∃ σ' H', Inv X pins σ' H' s' ∧ D.bk σ' H'
  | .cont => ∃ σ' H', Inv X pins σ' H' s' ∧ D.ct σ' H'
  | .ret u => ∃ v σ' H', Inv X pins σ' H' s' ∧ RelV v u ∧ D.rt v H'

def PE (X : Cx) (e : Expr) (t : TE) : Prop :=
  ∀ (pins : List (Addr × Obj)) (s : Shared) (σ : St) (H : Hp) (Q : VK), Inv X pins σ H s → t σ H Q → wpAny (model X.prog X.w) X.A (eval e X.env) (EP X pins σ Q) X.xe s
def PT (X : Cx) (e : Expr) (t : TT) : Prop :=
  ∀ (pins : List (Addr × Obj)) (s : Shared) (σ : St) (H : Hp) (Q : Bool → Hp → Prop), Inv X pins σ H s → t σ H Q → wpAny (model X.prog X.w) X.A (isTrue e X.env (eval e X.env)) (TP X pins σ Q) X.xe s
def PW (X : Cx) (e : Expr) (t : TT) : Prop :=
  ∀ (whole : Sem Value) (pins : List (Addr × Obj)) (s : Shared) (σ : St) (H : Hp) (Q : Bool → Hp → Prop), Inv X pins σ H s → t σ H Q → wpAny (model X.prog X.w) X.A (isTrue e X.env whole) (TP X pins σ Q) X.xe s
theorem PW.pt {X : Cx} {e : Expr} {t : TT} (h : PW X e t) : PT X e t := h _
def PA (X : Cx) (es : List Expr) (t : TA) : Prop :=
  ∀ (pos : Pos) (pins : List (Addr × Obj)) (s : Shared) (σ : St) (H : Hp) (Q : List V → Hp → Prop), Inv X pins σ H s → t σ H Q → wpAny (model X.prog X.w) X.A (spliced (backTo pos (starEach es X.env))) (AP X pins σ Q) X.xe s
def PS (X : Cx) (st : Stmt) (t : TS) : Prop :=
  ∀ (pins : List (Addr × Obj)) (s : Shared) (σ : St) (H : Hp) (D : Ends), Inv X pins σ H s → t D σ H → wpAny (model X.prog X.w) X.A (exec st X.env) (SP X pins D) X.xe s
def PSs (X : Cx) (st : List Stmt) (t : TS) : Prop :=
  ∀ (pins : List (Addr × Obj)) (s : Shared) (σ : St) (H : Hp) (D : Ends), Inv X pins σ H s → t D σ H → wpAny (model X.prog X.w) X.A (execs st X.env) (SP X pins D) X.xe s
theorem thn {α : Type} {t : Sem α} {Q Q' : α → Shared → Prop} {M : Model} {A : Around} {E : Value → Shared → Prop} {s : Shared} (h : wpAny M A t Q E s) (hQ : ∀ a s, Q a s → Q' a s) : wpAny M A t Q' E s := wpAny_mono h hQ fun _ _ x => x
end L2

namespace L2
open PySem PySem.Spec PyProof.Rows
section
variable {X : Cx}

/-! ### names and constants -/
def tVar (i : Nat) : TE := fun σ H Q => ∃ v, σ[i]? = some (some v) ∧ Q v H
def tC (v : V) : TE := fun _ H Q => Q v H
theorem pe_var {i : Nat} {x : Str} {pos : Pos} (hN : X.N[i]? = some x) (hv : Vis X.env.scope x) (hd : (x == ("__debug__" : Str)) = false := by decide) (hcd : (x == ("__classdict__" : Str)) = false := by decide) : PE X (.Name x pos) (tVar i) := by
  intro pins s σ H Q I h
  obtain ⟨v, e, h⟩ := h
  obtain ⟨m, hn, hl⟩ := I.loc
  obtain ⟨u, r, l⟩ := hl i x v hN e hv
  have fin : EP X pins σ Q u s := ⟨v, H, I, r, h⟩
  rcases l with ⟨hk, hm⟩ | ⟨hk, c, hc, hcell⟩
  · exact wpAny_Name (wpAny_loadName_local I.ok.kind hk hn hm fin) hd
  · rcases hk with hk | hk
    · exact wpAny_Name (wpAny_loadName_cell I.ok.kind hk hc hcell fin) hd
    · exact wpAny_Name (wpAny_loadName_free I.ok.kind hk hc hcell fin hcd) hd
theorem pe_int {i j pos} : PE X (.Constant (.int i) j pos) (tC (.int i)) := fun _ _ _ H _ I h => wpAny_Constant_int ⟨.int i, H, I.tok _, ⟨_, rfl⟩, h⟩
theorem pe_bl {b j pos} : PE X (.Constant (.bool b) j pos) (tC (.bl b)) := fun _ _ _ H _ I h => Constant_bool ⟨.bl b, H, I, rfl, h⟩
theorem pe_non {j pos} : PE X (.Constant .none j pos) (tC .non) := fun _ _ _ H _ I h => Constant_none ⟨.non, H, I, rfl, h⟩
theorem pe_str {x j pos} : PE X (.Constant (.str x) j pos) (tC (.str x)) := fun _ _ _ H _ I h => Calls.Constant_str ⟨.str x, H, I.tok _, ⟨_, rfl⟩, h⟩

def Gl (X : Cx) (x : Str) : Prop := X.env.kindOf x = some .globalImplicit
theorem ld_glob {E : Value → Shared → Prop} {pins : List (Addr × Obj)} {s : Shared} {σ : St} {H : Hp} {x : Str} {u : Value} {pos : Pos} {Q : Value → Shared → Prop} (I : Inv X pins σ H s) (hg : Gl X x) (hm : X.mg x = some u) (h : Q u s)
    (hd : (x == ("__debug__" : Str)) = false := by decide) : wpAny (model X.prog X.w) X.A (eval (.Name x pos) X.env) Q E s :=
  Calls.Name_function_global I.ok.kind hg (Calls.loadGlobal_global (by rw [I.ok.glob]; exact I.mod.glob.keeps I.bk) hm h) hd
theorem ld_blt {E : Value → Shared → Prop} {pins : List (Addr × Obj)} {s : Shared} {σ : St} {H : Hp} {x : Str} {u : Value} {pos : Pos} {Q : Value → Shared → Prop} (I : Inv X pins σ H s) (hg : Gl X x) (hm : X.mg x = none) (hv : bootBuiltins x = some u) (h : Q u s)
    (hn : x ≠ "__name__" := by decide) (hd : (x == ("__debug__" : Str)) = false := by decide) : wpAny (model X.prog X.w) X.A (eval (.Name x pos) X.env) Q E s := by
  obtain ⟨mb, h1, h2⟩ := I.mod.blt
  exact Calls.Name_function_global I.ok.kind hg (Calls.loadGlobal_builtin (by rw [I.ok.glob]; exact I.mod.glob.keeps I.bk) hm (by rw [I.ok.blt]; exact h1.keeps I.bk) ((h2 x hn).trans hv) h) hd
theorem pe_glob {x : Str} {v : V} {u : Value} {pos : Pos} (hg : Gl X x) (hm : X.mg x = some u) (r : RelV v u) (hd : (x == ("__debug__" : Str)) = false := by decide) : PE X (.Name x pos) (tC v) :=
  fun _ _ _ H _ I h => ld_glob I hg hm ⟨v, H, I, r, h⟩ hd
theorem pe_bltn {x : Str} {v : V} {u : Value} {pos : Pos} (hg : Gl X x) (hm : X.mg x = none) (hv : bootBuiltins x = some u) (r : RelV v u) (hn : x ≠ "__name__" := by decide) (hd : (x == ("__debug__" : Str)) = false := by decide) : PE X (.Name x pos) (tC v) :=
  fun _ _ _ H _ I h => ld_blt I hg hm hv ⟨v, H, I, r, h⟩ hn hd

/-! ### arithmetic -/
variable {a b : Expr} {ta tb : TE} {pos : Pos}
/-! ### comparisons -/
def PC (X : Cx) (op : CmpOp) (a b : Expr) (t : TE) : Prop :=
  ∀ (pins : List (Addr × Obj)) (s : Shared) (σ : St) (H : Hp) (Q : VK), Inv X pins σ H s → t σ H Q →
    wpAny (model X.prog X.w) X.A (eval a X.env) (fun v s₁ => wpAny (model X.prog X.w) X.A (eval b X.env) (fun u s₂ => wpAny (model X.prog X.w) X.A (compareOp op v u) (EP X pins σ Q) X.xe s₂) X.xe s₁) X.xe s
def tB (t : TE) : TT := fun σ H Q => t σ H fun x H1 => ∃ c, x = .bl c ∧ Q c H1
theorem pt_val {e : Expr} {t : TE} (h : PE X e t) (he : ∀ whole, isTrue e X.env whole = (do let v ← whole; standAt e.pos; holding [v] (truthy v)) := by intro _; rfl) : PT X e (tB t) := by
  intro pins s σ H Q I hw
  refine isTrue_plain (thn (h pins s σ H _ I hw) fun v s1 ⟨x, H1, I1, r1, q1⟩ => ?_) (he _)
  obtain ⟨d, rfl, q⟩ := q1
  cases r1
  exact wpAny_truthy_bool ⟨H1, I1, q⟩

/-! ### and, or, not -/
variable {tA tB' : TT} {rest : List Expr}
def tAnd (t u : TT) : TT := fun σ H Q => t σ H fun c H1 => if c = true then u σ H1 Q else Q false H1
def tOr (t u : TT) : TT := fun σ H Q => t σ H fun c H1 => if c = true then Q true H1 else u σ H1 Q
def tNot (t : TT) : TT := fun σ H Q => t σ H fun c H1 => Q (!c) H1
theorem pw_and1 (ha : PT X a tA) : PW X (.BoolOp .And [a] pos) tA := by
  intro wh pins s σ H Q I h
  refine isTrue_and (thn (ha pins s σ H Q I h) fun c s1 e => ?_)
  cases c with
  | true => exact isTrue_and_nil e
  | false => exact e
theorem pw_or1 (ha : PT X a tA) : PW X (.BoolOp .Or [a] pos) tA := by
  intro wh pins s σ H Q I h
  refine isTrue_or (thn (ha pins s σ H Q I h) fun c s1 e => ?_)
  cases c with
  | false => exact isTrue_or_nil e
  | true => exact e
theorem pw_and (ha : PT X a tA) (hb : PW X (.BoolOp .And (b :: rest) pos) tB') : PW X (.BoolOp .And (a :: b :: rest) pos) (tAnd tA tB') := by
  intro wh pins s σ H Q I h
  refine isTrue_and (thn (ha pins s σ H _ I h) fun c s1 ⟨H1, I1, q1⟩ => ?_)
  cases c with
  | true => exact hb wh pins s1 σ H1 Q I1 q1
  | false => exact ⟨H1, I1, q1⟩
theorem pw_or (ha : PT X a tA) (hb : PW X (.BoolOp .Or (b :: rest) pos) tB') : PW X (.BoolOp .Or (a :: b :: rest) pos) (tOr tA tB') := by
  intro wh pins s σ H Q I h
  refine isTrue_or (thn (ha pins s σ H _ I h) fun c s1 ⟨H1, I1, q1⟩ => ?_)
  cases c with
  | true => exact ⟨H1, I1, q1⟩
  | false => exact hb wh pins s1 σ H1 Q I1 q1
theorem pt_not (ha : PT X a tA) : PT X (.UnaryOp .Not a pos) (tNot tA) := by
  intro pins s σ H Q I h
  exact isTrue_not (ha pins s σ H (fun c H1 => Q (!c) H1) I h)
def tOrV (ta tb : TE) : TE := fun σ H Q => ta σ H fun x H1 => ∃ c, x = .bl c ∧ if c = true then Q (.bl true) H1 else tb σ H1 Q
theorem pe_or (ha : PE X a ta) (hb : PE X (.BoolOp .Or (b :: rest) pos) tb) : PE X (.BoolOp .Or (a :: b :: rest) pos) (tOrV ta tb) := by
  intro pins s σ H Q I h
  refine BoolOp_or (thn (ha pins s σ H _ I h) fun v s1 ⟨x, H1, I1, r1, q1⟩ => ?_)
  obtain ⟨c, rfl, q1⟩ := q1
  cases r1
  refine wpAny_truthy_bool ?_
  cases c with
  | false => exact hb pins s1 σ H1 Q I1 q1
  | true => exact ⟨.bl true, H1, I1, rfl, q1⟩
end
end L2

namespace L2
open PySem PySem.Spec PyProof.Rows

/-! ### a list, a tuple that is read: tracked, frozen, or an object of the module -/
def SqL (K : PySem.W.Frag) (H : Hp) (a : Addr) (xs : List V) : Prop :=
  Rd H a (.lst xs) ∨
    ∃ (o : Obj) (its : Array Value) (n : Nat), K.lookup a = some o ∧ o.cls = .type "list" ∧ o.dict = none ∧ o.data = .seq its n ∧ its.size ≤ sizeLine ∧ Vals xs its.toList
def SqT (K : PySem.W.Frag) (H : Hp) (a : Addr) (xs : List V) : Prop :=
  Rd H a (.tup xs) ∨
    ∃ (o : Obj) (its : Array Value) (n : Nat), K.lookup a = some o ∧ o.cls = .type "tuple" ∧ o.data = .seq its n ∧ its.size ≤ sizeLine ∧ Vals xs its.toList
def absV : Value → Option V
  | .none => some .non
  | .bool b => some (.bl b)
  | .int i _ => some (.int i)
  | .str x _ => some (.str x)
  | .bytes b _ => some (.byt b)
  | .float b _ => some (.flt b)
  | .ref a => some (.ref a)
  | .type n => some (.ty n)
  | _ => none
theorem RelV.abs {x : V} {u : Value} (r : RelV x u) : absV u = some x := by
  cases x with
  | non => cases r; rfl
  | bl _ => cases r; rfl
  | int _ => obtain ⟨t, rfl⟩ := r; rfl
  | str _ => obtain ⟨t, rfl⟩ := r; rfl
  | byt _ => obtain ⟨t, rfl⟩ := r; rfl
  | flt _ => obtain ⟨t, rfl⟩ := r; rfl
  | ref _ => cases r; rfl
  | ty _ => cases r; rfl
theorem RelV.inj {x y : V} {u : Value} (r : RelV x u) (q : RelV y u) : x = y := Option.some.inj (r.abs.symm.trans q.abs)
theorem Vals.inj : ∀ {xs ys : List V} {us : List Value}, Vals xs us → Vals ys us → xs = ys
  | _, _, _, .nil, .nil => rfl
  | _, _, _, .cons r t, .cons r' t' => by rw [r.inj r', Vals.inj t t']
section
variable {X : Cx} {pins : List (Addr × Obj)} {σ : St} {H : Hp} {s : Shared} {a : Addr} {xs ys : List V}
theorem SqL.of {K : PySem.W.Frag} (h : H a = some (.lst xs)) : SqL K H a xs := .inl (.inl h)
theorem SqT.of {K : PySem.W.Frag} (h : H a = some (.tup xs)) : SqT K H a xs := .inl (.inl h)
theorem Inv.list (I : Inv X pins σ H s) (h : SqL X.K H a xs) : ∃ its : List Value, Vals xs its ∧ PlainL s.heap a its.toArray ∧ xs.length ≤ sizeLine := by
  rcases h with h | ⟨o, its, n, hk, hc, hd, hs, hz, r⟩
  · obtain ⟨z, its, n, r, e⟩ := h.ok I.hok
    exact ⟨its, r, ⟨_, n, e, rfl, rfl, rfl⟩, z⟩
  · refine ⟨its.toList, r, ⟨o, n, I.kIn a o hk, hc, hd, by simpa using hs⟩, ?_⟩
    have e := r.length
    simp only [Array.length_toList] at e
    omega
theorem Inv.tuple (I : Inv X pins σ H s) (h : SqT X.K H a xs) : ∃ its : List Value, Vals xs its ∧ IsTup s.heap a its.toArray ∧ xs.length ≤ sizeLine := by
  rcases h with h | ⟨o, its, n, hk, hc, hs, hz, r⟩
  · obtain ⟨z, its, r, p⟩ := h.ok I.hok
    exact ⟨its, r, p, z⟩
  · refine ⟨its.toList, r, ⟨o, I.kIn a o hk, hc, n, by simpa using hs⟩, ?_⟩
    have e := r.length
    simp only [Array.length_toList] at e
    omega
theorem Inv.list_inj (I : Inv X pins σ H s) (h : SqL X.K H a xs) (h' : SqL X.K H a ys) : xs = ys := by
  obtain ⟨its, r, ⟨o, n, e, _, _, d⟩, _⟩ := I.list h
  obtain ⟨its', r', ⟨o', n', e', _, _, d'⟩, _⟩ := I.list h'
  rw [e] at e'; cases e'
  rw [d] at d'
  injection d' with d1 _
  have : its = its' := by simpa using congrArg Array.toList d1
  subst this
  exact r.inj r'
theorem Inv.tuple_inj (I : Inv X pins σ H s) (h : SqT X.K H a xs) (h' : SqT X.K H a ys) : xs = ys := by
  obtain ⟨its, r, ⟨o, e, _, n, d⟩, _⟩ := I.tuple h
  obtain ⟨its', r', ⟨o', e', _, n', d'⟩, _⟩ := I.tuple h'
  rw [e] at e'; cases e'
  rw [d] at d'
  injection d' with d1 _
  have : its = its' := by simpa using congrArg Array.toList d1
  subst this
  exact r.inj r'
end

/-! ### another wish about exceptions -/
abbrev Cx.wish (X : Cx) (E : Value → Shared → Prop) : Cx := { X with xe := E }
abbrev Cx.nox (X : Cx) : Cx := X.wish fun _ _ => False
theorem Cx.Ok.wish {X : Cx} (ok : X.Ok) (E : Value → Shared → Prop) : (X.wish E).Ok :=
  ⟨ok.mod, ok.kind, ok.glob, ok.blt, ok.above, ok.inj, ok.has, ok.cab, ok.hd, ok.frames, ok.stk, ok.exf, ok.bs, ok.bsz, ok.noex, ok.exfs, ok.funs, ok.frf⟩
theorem Cx.Ok.unwish {X : Cx} {E : Value → Shared → Prop} (ok : (X.wish E).Ok) : X.Ok :=
  ⟨ok.mod, ok.kind, ok.glob, ok.blt, ok.above, ok.inj, ok.has, ok.cab, ok.hd, ok.frames, ok.stk, ok.exf, ok.bs, ok.bsz, ok.noex, ok.exfs, ok.funs, ok.frf⟩
section
variable {X : Cx} {pins : List (Addr × Obj)} {σ : St} {H : Hp} {s : Shared} {E : Value → Shared → Prop}
theorem Inv.wish (I : Inv X pins σ H s) (E : Value → Shared → Prop) : Inv (X.wish E) pins σ H s := ⟨I.ok.wish E, I.os, I.bare, I.base, I.loc, I.cell, I.free, I.freeC, I.pin, I.hok, I.len⟩
theorem Inv.unwish (I : Inv (X.wish E) pins σ H s) : Inv X pins σ H s := ⟨I.ok.unwish, I.os, I.bare, I.base, I.loc, I.cell, I.free, I.freeC, I.pin, I.hok, I.len⟩
theorem SP.unwish {D : Ends} {f : Flow} {s' : Shared} (h : SP (X.wish E) pins D f s') : SP X pins D f s' := by
  cases f with
  | next => obtain ⟨σ', H', I, q⟩ := h; exact ⟨σ', H', I.unwish, q⟩
  | brk => obtain ⟨σ', H', I, q⟩ := h; exact ⟨σ', H', I.unwish, q⟩
  | cont => obtain ⟨σ', H', I, q⟩ := h; exact ⟨σ', H', I.unwish, q⟩
  | ret u => obtain ⟨v, σ', H', I, r, q⟩ := h; exact ⟨v, σ', H', I.unwish, r, q⟩
theorem PSs.nox {st : List Stmt} {t : TS} (h : PSs X.nox st t) : PSs X st t := fun pins s σ H D I hw =>
  wpAny_mono (h pins s σ H D (I.wish _) hw) (fun _ _ q => q.unwish) fun _ _ z => False.elim z
end

/-! ### blocks and small statements -/
section
variable {X : Cx} {st : Stmt} {rest : List Stmt} {t u : TS} {e : Expr} {te : TE} {pos : Pos}
def tNext : TS := fun D σ H => D.nx σ H
def tSeq (t u : TS) : TS := fun D σ H => t { D with nx := u D } σ H
theorem pss_nil : PSs X [] tNext := fun _ _ σ H _ I h => wpAny_execs_nil ⟨σ, H, I, h⟩
theorem pss_cons (h1 : PS X st t) (h2 : PSs X rest u) : PSs X (st :: rest) (tSeq t u) := by
  intro pins s σ H D I h
  refine wpAny_execs_cons (thn (h1 pins s σ H { D with nx := u D } I h) fun f s1 q => ?_)
  cases f with
  | next =>
    obtain ⟨σ', H', I', q⟩ := q
    exact h2 pins s1 σ' H' D I' q
  | ret v => exact q
  | brk => exact q
  | cont => exact q
theorem pss_one (h1 : PS X st t) : PSs X [st] t := by
  intro pins s σ H D I h
  refine wpAny_execs_cons (thn (h1 pins s σ H D I h) fun f s1 q => ?_)
  cases f with
  | next => exact wpAny_execs_nil q
  | ret v => exact q
  | brk => exact q
  | cont => exact q
theorem Inv.quiet {pins : List (Addr × Obj)} {σ : St} {H : Hp} {s : Shared} (I : Inv X pins σ H s) : interactive X.env = false := by simp [interactive, I.ok.kind]
def tDrop (te : TE) : TS := fun D σ H => te σ H fun _ H1 => D.nx σ H1
theorem ps_expr (he : PE X e te) (hs : swapsWith e none pos.line X.env = pure false := by rfl) : PS X (.Expr e pos) (tDrop te) := by
  intro pins s σ H D I h
  exact wpAny_Expr_any (thn (he pins s σ H _ I h) fun v s1 ⟨x, H1, I1, r1, q1⟩ => ⟨σ, H1, I1, q1⟩) I.quiet hs
def tRet (te : TE) : TS := fun D σ H => te σ H D.rt
theorem ps_ret (he : PE X e te) : PS X (.Return (some e) pos) (tRet te) := by
  intro pins s σ H D I h
  exact wpAny_Return_some (thn (he pins s σ H _ I h) fun v s1 ⟨x, H1, I1, r1, q1⟩ => ⟨x, σ, H1, I1, r1, q1⟩)
def tIfS (c : TT) (t u : TS) : TS := fun D σ H => c σ H fun b H1 => if b = true then t D σ H1 else u D σ H1
theorem ps_if {c : Expr} {a b : List Stmt} {tc : TT} (hc : PT X c tc) (ha : PSs X a t) (hb : PSs X b u) : PS X (.If c a b pos) (tIfS tc t u) := by
  intro pins s σ H D I h
  refine wpAny_If (thn (hc pins s σ H _ I h) fun d s1 ⟨H1, I1, q1⟩ => ?_)
  cases d with
  | true => exact ha pins s1 σ H1 D I1 q1
  | false => exact hb pins s1 σ H1 D I1 q1
end

/-! ### targets -/
abbrev TG := V → St → Hp → (St → Hp → Prop) → Prop
abbrev TGs := List V → St → Hp → (St → Hp → Prop) → Prop
def PG (X : Cx) (target : Expr) (t : TG) : Prop :=
  ∀ (pins : List (Addr × Obj)) (s : Shared) (σ : St) (H : Hp) (v : V) (u : Value) (Q : St → Hp → Prop), Inv X pins σ H s → RelV v u → t v σ H Q →
    wpAny (model X.prog X.w) X.A (assign target X.env u) (fun _ s' => ∃ σ' H', Inv X pins σ' H' s' ∧ Q σ' H') X.xe s
def PGs (X : Cx) (ts : List Expr) (t : TGs) : Prop :=
  ∀ (pins : List (Addr × Obj)) (s : Shared) (σ : St) (H : Hp) (vs : List V) (us : List Value) (Q : St → Hp → Prop), Inv X pins σ H s → Vals vs us → t vs σ H Q →
    wpAny (model X.prog X.w) X.A (assignInOrder ((assignEach ts X.env).map (·.2)) us) (fun _ s' => ∃ σ' H', Inv X pins σ' H' s' ∧ Q σ' H') X.xe s
section
variable {X : Cx} {pos : Pos}
def gName (i : Nat) : TG := fun v σ H Q => Q (σ.set i (some v)) H
theorem pg_name {i : Nat} {x : Str} (hN : X.N.Nodup) (hi : X.N[i]? = some x) (hx : Loc X.env.scope x) (hf : X.fn x = true ∨ X.env.scope.names.lookup x = some .local := by first | exact .inl rfl | exact .inr rfl | assumption) : PG X (.Name x pos) (gName i) := by
  intro pins s σ H v u Q I r h
  exact wpAny_assign_Name (store_ok I hN hi hx r (fun s' I' => ⟨_, H, I', h⟩) hf)
def gNil : TGs := fun vs σ H Q => vs = [] ∧ Q σ H
def gCons (t : TG) (u : TGs) : TGs := fun vs σ H Q => ∃ v r, vs = v :: r ∧ t v σ H fun σ' H' => u r σ' H' Q
theorem pgs_nil : PGs X [] gNil := by
  intro pins s σ H vs us Q I r h
  obtain ⟨e, h⟩ := h
  subst e
  cases r
  exact assignInOrder_nil ⟨σ, H, I, h⟩
theorem pgs_cons {e : Expr} {es : List Expr} {t : TG} {u : TGs} (h1 : PG X e t) (h2 : PGs X es u)
    (hs : (assignEach (e :: es) X.env).map (·.2) = assign e X.env :: (assignEach es X.env).map (·.2) := by rfl) : PGs X (e :: es) (gCons t u) := by
  intro pins s σ H vs us Q I r h
  obtain ⟨v, vr, e1, h⟩ := h
  subst e1
  cases r with
  | cons r rr =>
    rw [hs]
    refine assignInOrder_cons (thn (h1 pins s σ H _ _ _ I r h) fun _ s1 ⟨σ1, H1, I1, q1⟩ => ?_)
    exact h2 pins s1 σ1 H1 _ _ Q I1 rr q1
def gTup (K : PySem.W.Frag) (n : Nat) (t : TGs) : TG := fun v σ H Q => ∃ a xs, v = .ref a ∧ SqT K H a xs ∧ xs.length = n ∧ t xs σ H Q
theorem pg_tup {es : List Expr} {k : Nat} {t : TGs} {n : Nat} (hc : X.calm = true) (h : PGs X es t)
    (hn : (assignEach es X.env).length = n := by rfl) (hst : (assignEach es X.env).findIdx? (·.1) = none := by rfl) : PG X (.Tuple es k pos) (gTup X.K n t) := by
  intro pins s σ H v u Q I r hw
  obtain ⟨a, xs, e1, hq, hl, hw⟩ := hw
  subst e1
  cases r
  obtain ⟨its, rv, ht, hz⟩ := I.tuple hq
  refine assign_Tuple_tuple (I.ok.hd hc) ht (by simp [hn, ← hl, rv.length]) hst fun h' hx => ?_
  have I1 : Inv X pins σ H { s with heap := h' } := I.kept (t' := s.toks) fun b o e => hx b o (Nat.ne_of_lt (Heap.lt_size e)) e
  exact h pins _ σ H xs _ Q I1 (by simpa using rv) hw
def tAsg (te : TE) (g : TG) : TS := fun D σ H => te σ H fun x H1 => g x σ H1 D.nx
theorem ps_set {i : Nat} {x : Str} {e : Expr} {te : TE} {pos' : Pos} (hN : X.N.Nodup) (hi : X.N[i]? = some x) (hx : Loc X.env.scope x) (he : PE X e te) (hs : swapsWith e (some (.Name x pos')) pos.line X.env = pure false := by rfl) (hf : X.fn x = true ∨ X.env.scope.names.lookup x = some .local := by first | exact .inl rfl | exact .inr rfl | assumption) :
    PS X (.Assign [.Name x pos'] e pos) (tAsg te (gName i)) := by
  intro pins s σ H D I h
  refine wpAny_Assign_Name (thn (he pins s σ H _ I h) fun v s1 ⟨y, H1, I1, r1, q1⟩ => ?_) hs
  exact store_ok I1 hN hi hx r1 (fun s2 I2 => ⟨_, H1, I2, q1⟩) hf
end

/-! ### while -/
section
variable {X : Cx} {pos : Pos}
end

/-! ### what a loop or a comprehension walks -/
structure It where
  go : Nat → Hp → Prop
  yld : Nat → Hp → V → Hp → Prop
  stop : Nat → Hp → Prop
def FpOk (X : Cx) (pins : List (Addr × Obj)) (H : Hp) (b : Addr) : Prop :=
  H b = none ∧ b ≠ X.env.locals ∧ b ∉ X.fs ∧ (b ∈ X.ex ∨ X.s₀.heap.objs.size ≤ b) ∧ (∀ x c, X.env.cells.lookup x = some c → c ≠ b) ∧ ∀ p ∈ X.pn ++ pins, p.1 ≠ b
theorem Inv.fpOk {X : Cx} {pins : List (Addr × Obj)} {σ : St} {H H' : Hp} {s : Shared} {b : Addr} (I : Inv X pins σ H s) (hb : s.heap.objs.size ≤ b) (hn : H' b = none) : FpOk X pins H' b := by
  refine ⟨hn, Nat.ne_of_gt (Nat.lt_of_lt_of_le I.lt hb), I.nofs hb, .inr (Nat.le_trans I.sz hb), fun x c e z => ?_, fun p hp z => ?_⟩
  · obtain ⟨v, q⟩ := I.cell x c e
    exact absurd (Nat.lt_of_lt_of_le q.lt (by rw [z]; exact hb)) (Nat.lt_irrefl _)
  · exact absurd (Nat.lt_of_lt_of_le (Heap.lt_size (I.pin p hp).1) (by rw [z]; exact hb)) (Nat.lt_irrefl _)
structure Turn (P : Program) (w : World) (K : PySem.W.Frag) (tg : Expr) (J : It) (fp : List Addr) (it : Addr) (tn : Nat → Heap → Prop) : Prop where
  mem : it ∈ fp
  obj : ∀ i h, tn i h → ∀ b ∈ fp, ∃ o, h.get? b = some o ∧ ∀ v, o.data ≠ .cell v
  keep : ∀ i h h', tn i h → (∀ b ∈ fp, ∀ o, h.get? b = some o → h'.get? b = some o) → tn i h'
  item : ∀ (X : Cx), X.prog = P → X.w = w → X.K = K → X.calm = true → ∀ (i : Nat) (pins : List (Addr × Obj)) (s : Shared) (σ : St) (H : Hp) (E : Value → Shared → Prop), Inv X pins σ H s → (∀ b ∈ fp, FpOk X pins H b) → tn i s.heap → J.go i H →
    wpAny (model P w) X.A (pyNext (.ref it)) (fun r s1 => ∃ u, r = some u ∧
      wpAny (model P w) X.A (letOwnedTupleGo tg (.ref it) u) (fun _ s2 => ∃ x H', Inv X pins σ H' s2 ∧ RelV x u ∧ J.yld i H x H' ∧ tn (i + 1) s2.heap ∧ ∀ b ∈ fp, H' b = none) E s1) E s
  done : ∀ (X : Cx), X.prog = P → X.w = w → X.K = K → X.calm = true → ∀ (i : Nat) (pins : List (Addr × Obj)) (s : Shared) (σ : St) (H : Hp) (E : Value → Shared → Prop), Inv X pins σ H s → (∀ b ∈ fp, FpOk X pins H b) → tn i s.heap → J.stop i H →
    wpAny (model P w) X.A (pyNext (.ref it)) (fun r s1 => r = none ∧ Inv X pins σ H s1) E s
  self : ∀ (A : Around) (i : Nat) (s : Shared) (Q : Value → Shared → Prop) (E : Value → Shared → Prop), tn i s.heap → Q (.ref it) s → wpAny (model P w) A (pyIter (.ref it)) Q E s
abbrev TI := St → Hp → (It → Hp → Prop) → Prop
def PIE (X : Cx) (pins : List (Addr × Obj)) (σ : St) (tg : Expr) (R : It → Hp → Prop) (itv : Value) (s2 : Shared) : Prop :=
  ∃ (it : Addr) (fp : List Addr) (tn : Nat → Heap → Prop) (J : It) (H' : Hp), itv = .ref it ∧ Inv X pins σ H' s2 ∧ Turn X.prog X.w X.K tg J fp it tn ∧ tn 0 s2.heap ∧ (∀ b ∈ fp, FpOk X pins H' b) ∧ R J H'
def PI (X : Cx) (tg iter : Expr) (wi : TI) : Prop :=
  ∀ (pins : List (Addr × Obj)) (s : Shared) (σ : St) (H : Hp) (R : It → Hp → Prop), Inv X pins σ H s → wi σ H R →
    wpAny (model X.prog X.w) X.A (eval iter X.env) (fun v s1 => wpAny (model X.prog X.w) X.A (pyIter v) (PIE X pins σ tg R) X.xe s1) X.xe s

theorem go_of {M : Model} {A : Around} {E : Value → Shared → Prop} {s : Shared} {tg : Expr} {it : Addr} {u : Value} {o : Obj} {n : String} {vs : Array Value} {Q : Unit → Shared → Prop} (ho : s.heap.get? it = some o) (hc : o.cls = .type n) (hd : o.data = .fields vs)
    (hn : ["enumerate", "zip", "dict_itemiterator", "dict_reverseitemiterator", "odict_iterator", "itertools.zip_longest", "itertools.pairwise"].contains n = false) (hQ : Q () s) : wpAny M A (letOwnedTupleGo tg (.ref it) u) Q E s := by
  unfold letOwnedTupleGo
  cases tg <;> first
    | exact wpAny_pure hQ
    | (cases u <;> first
        | exact wpAny_pure hQ
        | (refine wpAny_bind (wpAny_load ho ?_)
           rw [hc, hd]
           show wpAny M A (if (["enumerate", "zip", "dict_itemiterator", "dict_reverseitemiterator", "odict_iterator", "itertools.zip_longest", "itertools.pairwise"].contains n && vs[0]? == some (rawInt _)) = true then _ else _) Q E s
           rw [if_neg (by intro h; rw [hn, Bool.false_and] at h; cases h)]
           exact wpAny_pure hQ))

def Itl (K : PySem.W.Frag) (a : Addr) : It :=
  ⟨fun i H => ∃ xs x, SqL K H a xs ∧ xs[i]? = some x, fun i H x H' => H' = H ∧ ∀ xs, SqL K H a xs → xs[i]? = some x, fun i H => ∃ xs, SqL K H a xs ∧ xs.length ≤ i⟩
def Itr (lo : Int) (n : Nat) : It := ⟨fun i _ => i < n, fun i H x H' => H' = H ∧ x = .int (lo + i), fun i _ => n ≤ i⟩
theorem turn_list {P : Program} {w : World} {K : PySem.W.Frag} {tg : Expr} (a it : Addr) : Turn P w K tg (Itl K a) [it] it (fun i h => h.IsListIter it a i) where
  mem := by simp
  obj := fun i h st b hb => by
    have e : b = it := by simpa using hb
    subst e
    obtain ⟨o, e, c, d⟩ := st
    exact ⟨o, e, fun v z => by rw [d] at z; cases z⟩
  keep := fun i h h' st k => st.at fun o e => k it (by simp) o e
  item := by
    intro X hP hw hK hc i pins s σ H E I hf st hg
    subst hP hw hK
    obtain ⟨xs, x, hq, hx⟩ := hg
    obtain ⟨its, rv, p, hz⟩ := I.list hq
    obtain ⟨u, hu, ru⟩ := rv.get hx
    obtain ⟨f0, f1, f2, f3, f4, f5⟩ := hf it (by simp)
    refine wpAny_pyNext_list_item st p.isList (x := u) (by simpa using hu) fun h' st' sb => ?_
    have I1 : Inv X pins σ H { s with heap := h' } := I.turned (t' := s.toks) (fun b o hb e => (sb.2 b hb).trans e) f0 f1 f3 f4 f5
    obtain ⟨o, e, c, d⟩ := id st'
    exact ⟨u, rfl, go_of (s := { s with heap := h' }) e c d (by decide) ⟨x, H, I1, ru, ⟨rfl, fun ys hy => by rw [I.list_inj hy hq]; exact hx⟩, st', fun b hb => (hf b hb).1⟩⟩
  done := by
    intro X hP hw hK hc i pins s σ H E I hf st hg
    subst hP hw hK
    obtain ⟨xs, hq, hx⟩ := hg
    obtain ⟨its, rv, p, hz⟩ := I.list hq
    obtain ⟨f0, f1, f2, f3, f4, f5⟩ := hf it (by simp)
    have hl := rv.length
    exact wpAny_pyNext_list_end (I.ok.hd hc) st p.isList (by simp; omega) fun h' eb => ⟨rfl, I.turned (t' := s.toks) (fun b o hb e => eb b o hb e) f0 f1 f3 f4 f5⟩
  self := fun _ _ _ _ _ st h => wpAny_pyIter_listiter st h
theorem turn_range {P : Program} {w : World} {K : PySem.W.Frag} {tg : Expr} (it : Addr) (lo : Int) (n : Nat) : Turn P w K tg (Itr lo n) [it] it (fun i h => IsRangeIter h it (lo + (i : Nat) * 1) ((n : Int) - (i : Nat)) 1) where
  mem := by simp
  obj := fun i h st b hb => by
    have e : b = it := by simpa using hb
    subst e
    exact ⟨_, st, fun v z => by
      have z' : Data.fields _ = Data.cell v := z
      cases z'⟩
  keep := fun i h h' st k => k it (by simp) _ st
  item := by
    intro X hP hw hK hc i pins s σ H E I hf st hg
    subst hP hw hK
    obtain ⟨f0, f1, f2, f3, f4, f5⟩ := hf it (by simp)
    have W := Walks.range (prog := X.prog) (w := X.w) (I.ok.hd hc) it lo 1 n
    refine W.item i s _ _ hg st fun v h' tk hv st' kk => ?_
    obtain ⟨t, rfl⟩ := hv
    have I1 : Inv X pins σ H { s with heap := h', toks := tk } := I.turned (fun b o hb e => kk b o (by simpa using hb) e) f0 f1 f3 f4 f5
    refine ⟨_, rfl, go_of (s := { s with heap := h', toks := tk }) (n := "range_iterator") st' rfl rfl (by decide) ⟨.int (lo + i), H, I1, ⟨t, ?_⟩, ⟨rfl, rfl⟩, st', fun b hb => (hf b hb).1⟩⟩
    rw [Int.mul_one]
  done := by
    intro X hP hw hK hc i pins s σ H E I hf st hg
    subst hP hw hK
    obtain ⟨f0, f1, f2, f3, f4, f5⟩ := hf it (by simp)
    exact wpAny_pyNext_range_end (I.ok.hd hc) st (by have : n ≤ i := hg; omega) fun h' eb => ⟨rfl, I.turned (t' := s.toks) (fun b o hb e => eb b o hb e) f0 f1 f3 f4 f5⟩
  self := fun _ _ _ _ _ st h => wpAny_pyIter_rangeiter st h
end L2

namespace L2
open PySem PySem.Spec PyProof.Rows
section
variable {X : Cx} {tg : Expr}
def iList (K : PySem.W.Frag) (tl : TE) : TI := fun σ H R => tl σ H fun x H1 => ∃ a, x = .ref a ∧ (∃ xs, SqL K H1 a xs) ∧ R (Itl K a) H1
theorem pi_list {l : Expr} {tl : TE} (hl : PE X l tl) : PI X tg l (iList X.K tl) := by
  intro pins s σ H R I h
  refine thn (hl pins s σ H _ I h) fun v s1 ⟨x, H1, I1, r1, q1⟩ => ?_
  obtain ⟨a, e, ⟨xs, hq⟩, q⟩ := q1
  subst e
  cases r1
  obtain ⟨its, rv, p, hz⟩ := I1.list hq
  refine wpAny_pyIter_list p.isList ?_
  refine ⟨s1.heap.objs.size, [s1.heap.objs.size], _, _, H1, rfl, I1.kept (t' := s1.toks) fun b o e => Heap.get?_push_of_some _ e, turn_list a _, ⟨_, Heap.get?_push_size _ rfl, rfl, rfl⟩, fun b hb => ?_, q⟩
  have e : b = s1.heap.objs.size := by simpa using hb
  subst e
  exact I1.fpOk (Nat.le_refl _) (I1.hok.fresh (Nat.le_refl _))
theorem range_it {pins : List (Addr × Obj)} {σ : St} {H : Hp} {s : Shared} {R : It → Hp → Prop} {E : Value → Shared → Prop} {lo hi : Int} {t u v : Tok} {tk : Nat} (I : Inv X pins σ H s) (h1 : -(2 ^ 62) ≤ lo) (h2 : lo < 2 ^ 62) (h3 : -(2 ^ 62) ≤ hi) (h4 : hi < 2 ^ 62)
    (q : R (Itr lo (hi - lo).toNat) H) : wpAny (model X.prog X.w) X.A (pyIter (.ref s.heap.objs.size)) (PIE X pins σ tg R) E { s with heap := s.heap.push { cls := .type "range", data := .fields #[.int lo t, .int hi u, .int 1 v] }, toks := tk } := by
  refine wpAny_pyIter_range (IsRange.new ..) (small_one h1 h2 h3 h4) ?_
  have I1 : Inv X pins σ H { s with heap := s.heap.push { cls := .type "range", data := .fields #[.int lo t, .int hi u, .int 1 v] }, toks := tk } := I.kept fun b o e => Heap.get?_push_of_some _ e
  refine ⟨(s.heap.push { cls := .type "range", data := .fields #[.int lo t, .int hi u, .int 1 v] }).objs.size, [(s.heap.push { cls := .type "range", data := .fields #[.int lo t, .int hi u, .int 1 v] }).objs.size], _, _, H, rfl,
    I1.kept (t' := tk) fun b o e => Heap.get?_push_of_some _ e, turn_range _ lo (hi - lo).toNat, ?_, fun b hb => ?_, q⟩
  · have e1 : lo + ((0 : Nat) : Int) * 1 = lo := by simp
    have e2 : (((hi - lo).toNat : Nat) : Int) - ((0 : Nat) : Int) = Builtin.Range.rangeSize lo hi 1 := by rw [rangeSize_one]; split <;> omega
    show IsRangeIter _ _ (lo + ((0 : Nat) : Int) * 1) ((((hi - lo).toNat : Nat) : Int) - ((0 : Nat) : Int)) 1
    rw [e1, e2]
    exact Heap.get?_push_size _ rfl
  · have e : b = (s.heap.push { cls := .type "range", data := .fields #[.int lo t, .int hi u, .int 1 v] }).objs.size := by simpa using hb
    subst e
    exact I1.fpOk (Nat.le_refl _) (I1.hok.fresh (Nat.le_refl _))
def iRng1 (ta : TA) : TI := fun σ H R => ta σ H fun vs H1 => ∃ j : Int, vs = [.int j] ∧ -(2 ^ 62) ≤ j ∧ j < 2 ^ 62 ∧ R (Itr 0 j.toNat) H1
def iRng2 (ta : TA) : TI := fun σ H R => ta σ H fun vs H1 => ∃ i j : Int, vs = [.int i, .int j] ∧ (-(2 ^ 62) ≤ i ∧ i < 2 ^ 62 ∧ -(2 ^ 62) ≤ j ∧ j < 2 ^ 62) ∧ R (Itr i (j - i).toNat) H1
theorem pi_range1 {a : Expr} {ta : TA} {p pos : Pos} (hg : Gl X "range") (hm : X.mg "range" = none) (ha : PA X [a] ta) (hs : starEach [a] X.env = [(false, eval a X.env)] := by rfl) : PI X tg (.Call (.Name "range" p) [a] [] pos) (iRng1 ta) := by
  intro pins s σ H R I h
  refine Call_ (ld_blt I hg hm boot_range (PyProof.Rows.callWith_type1 (thn (ha pos pins s σ H _ I h) fun us s1 ⟨vs, H1, I1, r1, q1⟩ => ?_) hs rfl))
  obtain ⟨j, e, q1, q2, q⟩ := q1
  subst e
  cases r1 with
  | cons r rr =>
    cases rr
    obtain ⟨t, rfl⟩ := r
    exact call_range_1 (range_it I1 (by omega) (by omega) q1 q2 (by simpa using q))
theorem pi_range2 {a b : Expr} {ta : TA} {p pos : Pos} (hg : Gl X "range") (hm : X.mg "range" = none) (ha : PA X [a, b] ta) (hs : starEach [a, b] X.env = [(false, eval a X.env), (false, eval b X.env)] := by rfl) (hs2 : starEach [b] X.env = [(false, eval b X.env)] := by rfl) :
    PI X tg (.Call (.Name "range" p) [a, b] [] pos) (iRng2 ta) := by
  intro pins s σ H R I h
  refine Call_ (ld_blt I hg hm boot_range (PyProof.Rows.callWith_type1 (thn (ha pos pins s σ H _ I h) fun us s1 ⟨vs, H1, I1, r1, q1⟩ => ?_) (by rw [hs, hs2]) (by rw [hs2]; rfl)))
  obtain ⟨i, j, e, ⟨q1, q2, q3, q4⟩, q⟩ := q1
  subst e
  cases r1 with
  | cons r rr =>
    cases rr with
    | cons r' rr =>
      cases rr
      obtain ⟨t, rfl⟩ := r
      obtain ⟨t', rfl⟩ := r'
      exact call_range_2 (range_it I1 q1 q2 q3 q4 q)

/-! ### for -/
def tFor (wi : TI) (g : TG) (tb : TS) : TS := fun D σ H => wi σ H fun J H1 => ∃ W : Nat → Nat → St → Hp → Prop, (∃ m, W 0 m σ H1) ∧ ∀ i m σ H, W i m σ H →
  (J.stop i H ∧ D.nx σ H) ∨ (J.go i H ∧ ∃ N : St → Hp → Prop, (∀ σ' H', N σ' H' → ∃ m', m' < m ∧ W (i + 1) m' σ' H') ∧ ∀ x H', J.yld i H x H' → g x σ H' fun σ2 H2 => tb { D with nx := N, ct := N, bk := D.nx } σ2 H2)
def pinsAt (fp : List Addr) (h : Heap) : List (Addr × Obj) := fp.filterMap fun b => (h.get? b).map fun o => (b, o)
theorem mem_pinsAt {fp : List Addr} {h : Heap} {b : Addr} {o : Obj} (hb : b ∈ fp) (e : h.get? b = some o) : (b, o) ∈ pinsAt fp h := List.mem_filterMap.mpr ⟨b, hb, by rw [e]; rfl⟩
theorem of_pinsAt {fp : List Addr} {h : Heap} {p : Addr × Obj} (hp : p ∈ pinsAt fp h) : p.1 ∈ fp ∧ h.get? p.1 = some p.2 := by
  obtain ⟨b, hb, e⟩ := List.mem_filterMap.mp hp
  cases q : h.get? b with
  | none => rw [q] at e; cases e
  | some o =>
    rw [q] at e
    have e' : (b, o) = p := Option.some.inj e
    subst e'
    exact ⟨hb, q⟩
theorem Inv.pinned {pins : List (Addr × Obj)} {σ : St} {H : Hp} {s : Shared} {fp : List Addr} (I : Inv X pins σ H s) (hf : ∀ b ∈ fp, FpOk X pins H b) (ho : ∀ b ∈ fp, ∃ o, s.heap.get? b = some o ∧ ∀ v, o.data ≠ .cell v) : Inv X (pins ++ pinsAt fp s.heap) σ H s :=
  I.pins_of fun p hp => (List.mem_append.mp hp).elim (fun z => I.pin p (List.mem_append_right _ z)) fun z => by
    obtain ⟨hb, e⟩ := of_pinsAt z
    obtain ⟨f0, f1, f2, _⟩ := hf p.1 hb
    obtain ⟨o, e', d⟩ := ho p.1 hb
    rw [e] at e'; cases e'
    exact ⟨e, f0, f1, f2, d⟩
theorem Inv.unpinned {pins pl : List (Addr × Obj)} {σ : St} {H : Hp} {s : Shared} (I : Inv X (pins ++ pl) σ H s) : Inv X pins σ H s := I.pins_of fun p hp => I.pin p (List.mem_append_right _ (List.mem_append_left _ hp))
theorem ps_for {iter : Expr} {body : List Stmt} {wi : TI} {g : TG} {tb : TS} {pos : Pos} (hp : PassesOwn (model X.prog X.w) X.A X.env X.xe) (hc : X.calm = true) (hi : PI X tg iter wi) (hg : PG X tg g) (hb : PSs X body tb)
    (hs : ∀ x, foldedSetIterable iter X.env x = pure x := by intro _; rfl) : PS X (.For tg iter body [] pos) (tFor wi g tb) := by
  intro pins s σ H D I h
  refine wpAny_For (thn (hi pins s σ H _ I h) fun v s1 h1 => thn h1 fun itv s2 h2 => ?_) hs
  obtain ⟨it, fp, tn, J, H2, e, I2, T, st2, f2, W, ⟨m0, w0⟩, turn⟩ := h2
  subst e
  -- what stays true of the iterator's objects through the loop
  have stat : ∀ {H' : Hp}, (∀ b ∈ fp, H' b = none) → ∀ b ∈ fp, FpOk X pins H' b := fun hn b hb => ⟨hn b hb, (f2 b hb).2⟩
  refine codeAny_forLoop_any (fun n s' => ∃ i σ' H', Inv X pins σ' H' s' ∧ tn i s'.heap ∧ (∀ b ∈ fp, H' b = none) ∧ W i n σ' H') ?_ m0 ⟨0, σ, H2, I2, st2, fun b hb => (f2 b hb).1, w0⟩
  rintro n s3 ⟨i, σ3, H3, I3, st3, fr3, w3⟩
  rcases turn i n σ3 H3 w3 with ⟨stop, qn⟩ | ⟨go, N, hN, step⟩
  · refine wpAny_passesOwn hp (thn (T.done X rfl rfl rfl hc i pins s3 σ3 H3 X.xe I3 (stat fr3) st3 stop) fun r s4 ⟨hr, I4⟩ => ?_)
    subst hr
    exact wpAny_execs_nil ⟨σ3, H3, I4, qn⟩
  · refine wpAny_passesOwn hp (thn (T.item X rfl rfl rfl hc i pins s3 σ3 H3 X.xe I3 (stat fr3) st3 go) fun r s4 ⟨u, hr, h4⟩ => ?_)
    subst hr
    refine wpAny_passesOwn hp (thn h4 fun _ s5 ⟨x, H5, I5, r5, y5, st5, fr5⟩ => ?_)
    have I5' := I5.pinned (stat fr5) (T.obj _ _ st5)
    refine wpAny_passesOwn hp (thn (hg _ s5 σ3 H5 x u _ I5' r5 (step x H5 y5)) fun _ s6 ⟨σ6, H6, I6, q6⟩ => ?_)
    refine wpAny_passesOwn hp (thn (hb _ s6 σ6 H6 _ I6 q6) fun f s7 q7 => ?_)
    have again : ∀ {σ7 : St} {H7 : Hp}, Inv X (pins ++ pinsAt fp s5.heap) σ7 H7 s7 → N σ7 H7 → ∃ m, m < n ∧ ∃ i σ' H', Inv X pins σ' H' s7 ∧ tn i s7.heap ∧ (∀ b ∈ fp, H' b = none) ∧ W i m σ' H' := fun {σ7 H7} I7 n7 => by
      obtain ⟨m', hm, w7⟩ := hN σ7 H7 n7
      refine ⟨m', hm, i + 1, σ7, H7, I7.unpinned, T.keep _ _ _ st5 fun b hb o e => (I7.pin (b, o) (List.mem_append_right _ (List.mem_append_right _ (mem_pinsAt hb e)))).1, fun b hb => ?_, w7⟩
      obtain ⟨o, e, d⟩ := T.obj _ _ st5 b hb
      exact (I7.pin (b, o) (List.mem_append_right _ (List.mem_append_right _ (mem_pinsAt hb e)))).2.1
    cases f with
    | next => obtain ⟨σ7, H7, I7, n7⟩ := q7; exact again I7 n7
    | cont => obtain ⟨σ7, H7, I7, n7⟩ := q7; exact again I7 n7
    | brk => obtain ⟨σ7, H7, I7, q7⟩ := q7; exact ⟨σ7, H7, I7.unpinned, q7⟩
    | ret v => obtain ⟨x7, σ7, H7, I7, r7, q7⟩ := q7; exact ⟨x7, σ7, H7, I7.unpinned, r7, q7⟩
end

/-! ### the forms one uses -/
theorem for_list {K : PySem.W.Frag} {a : Addr} {xs : List V} {g : TG} {tb : TS} {D : Ends} {σ : St} {H : Hp} (Pv : Nat → St → Hp → Prop) (h0 : Pv 0 σ H) (hl : ∀ i σ H, i ≤ xs.length → Pv i σ H → SqL K H a xs)
    (hs : ∀ i x σ H, xs[i]? = some x → Pv i σ H → g x σ H fun σ2 H2 => tb { D with nx := Pv (i + 1), ct := Pv (i + 1), bk := D.nx } σ2 H2) (hd : ∀ σ H, Pv xs.length σ H → D.nx σ H) :
    ∃ W : Nat → Nat → St → Hp → Prop, (∃ m, W 0 m σ H) ∧ ∀ i m σ H, W i m σ H →
      ((Itl K a).stop i H ∧ D.nx σ H) ∨ ((Itl K a).go i H ∧ ∃ N : St → Hp → Prop, (∀ σ' H', N σ' H' → ∃ m', m' < m ∧ W (i + 1) m' σ' H') ∧ ∀ x H', (Itl K a).yld i H x H' → g x σ H' fun σ2 H2 => tb { D with nx := N, ct := N, bk := D.nx } σ2 H2) := by
  refine ⟨fun i m σ H => m = xs.length - i ∧ i ≤ xs.length ∧ Pv i σ H, ⟨xs.length, by simp, Nat.zero_le _, h0⟩, ?_⟩
  rintro i m σ H ⟨rfl, hi, p⟩
  have q := hl i σ H hi p
  by_cases hlt : i < xs.length
  · refine .inr ⟨⟨xs, xs[i], q, by simp [hlt]⟩, Pv (i + 1), fun σ' H' p' => ⟨xs.length - (i + 1), by omega, rfl, hlt, p'⟩, fun x H' y => ?_⟩
    obtain ⟨e, y⟩ := y
    subst e
    exact hs i x σ _ (y xs q) p
  · have e : i = xs.length := by omega
    subst e
    exact .inl ⟨⟨xs, q, Nat.le_refl _⟩, hd σ H p⟩
theorem for_range {lo : Int} {n : Nat} {g : TG} {tb : TS} {D : Ends} {σ : St} {H : Hp} (Pv : Nat → St → Hp → Prop) (h0 : Pv 0 σ H)
    (hs : ∀ i σ H, i < n → Pv i σ H → g (.int (lo + i)) σ H fun σ2 H2 => tb { D with nx := Pv (i + 1), ct := Pv (i + 1), bk := D.nx } σ2 H2) (hd : ∀ σ H, Pv n σ H → D.nx σ H) :
    ∃ W : Nat → Nat → St → Hp → Prop, (∃ m, W 0 m σ H) ∧ ∀ i m σ H, W i m σ H →
      ((Itr lo n).stop i H ∧ D.nx σ H) ∨ ((Itr lo n).go i H ∧ ∃ N : St → Hp → Prop, (∀ σ' H', N σ' H' → ∃ m', m' < m ∧ W (i + 1) m' σ' H') ∧ ∀ x H', (Itr lo n).yld i H x H' → g x σ H' fun σ2 H2 => tb { D with nx := N, ct := N, bk := D.nx } σ2 H2) := by
  refine ⟨fun i m σ H => m = n - i ∧ i ≤ n ∧ Pv i σ H, ⟨n, by simp, Nat.zero_le _, h0⟩, ?_⟩
  rintro i m σ H ⟨rfl, hi, p⟩
  by_cases hlt : i < n
  · refine .inr ⟨hlt, Pv (i + 1), fun σ' H' p' => ⟨n - (i + 1), by omega, rfl, hlt, p'⟩, fun x H' y => ?_⟩
    obtain ⟨e, y⟩ := y
    subst e y
    exact hs i σ _ hlt p
  · have e : i = n := by omega
    subst e
    exact .inl ⟨Nat.le_refl _, hd σ H p⟩
end L2

namespace L2
open PySem PySem.Spec PyProof.Rows

abbrev R2 := V → V → Hp → VK → Prop
def OpR (X : Cx) (f : Value → Value → Sem Value) (r : R2) : Prop :=
  ∀ (pins : List (Addr × Obj)) (s : Shared) (σ : St) (H : Hp) (x y : V) (v u : Value) (Q : VK), Inv X pins σ H s → RelV x v → RelV y u → r x y H Q →
    wpAny (model X.prog X.w) X.A (f v u) (EP X pins σ Q) X.xe s
def CallR (X : Cx) (f : Value) (r : List V → Hp → VK → Prop) : Prop :=
  ∀ (pins : List (Addr × Obj)) (s : Shared) (σ : St) (H : Hp) (xs : List V) (us : List Value) (Q : VK), Inv X pins σ H s → Vals xs us → r xs H Q →
    wpAny (model X.prog X.w) X.A (call f us) (EP X pins σ Q) X.xe s
def tOp (r : R2) (ta tb : TE) : TE := fun σ H Q => ta σ H fun x H1 => tb σ H1 fun y H2 => r x y H2 Q
def rI (C : Int → Int → Prop) (g : Int → Int → V) : R2 := fun x y H Q => ∃ i j, x = .int i ∧ y = .int j ∧ C i j ∧ Q (g i j) H
def rI0 (g : Int → Int → V) : R2 := fun x y H Q => ∃ i j, x = .int i ∧ y = .int j ∧ Q (g i j) H
section
variable {X : Cx} {a b c : Expr} {ta tb tc : TE} {pos : Pos}

theorem binT (ha : PE X a ta) (hb : PE X b tb) {pins : List (Addr × Obj)} {s : Shared} {σ : St} {H : Hp} {R : V → V → Hp → Prop} (I : Inv X pins σ H s)
    (h : ta σ H fun x H1 => tb σ H1 fun y H2 => R x y H2) {Q : Value → Shared → Prop} {f : Value → Value → Sem Value}
    (hf : ∀ v u s2 x y H2, Inv X pins σ H2 s2 → RelV x v → RelV y u → R x y H2 → wpAny (model X.prog X.w) X.A (f v u) Q X.xe s2) :
    wpAny (model X.prog X.w) X.A (eval a X.env) (fun v s₁ => wpAny (model X.prog X.w) X.A (eval b X.env) (fun u s₂ => wpAny (model X.prog X.w) X.A (f v u) Q X.xe s₂) X.xe s₁) X.xe s := by
  refine thn (ha pins s σ H _ I h) fun v s1 ⟨x, H1, I1, r1, q1⟩ => ?_
  refine thn (hb pins s1 σ H1 _ I1 q1) fun u s2 ⟨y, H2, I2, r2, q2⟩ => ?_
  exact hf v u s2 x y H2 I2 r1 r2 q2

theorem pe_op {op : Operator} {r : R2} (ho : OpR X (binaryOp op) r) (ha : PE X a ta) (hb : PE X b tb) : PE X (.BinOp a op b pos) (tOp r ta tb) := by
  intro pins s σ H Q I h
  exact wpAny_BinOp (binT ha hb I h fun v u s2 x y H2 I2 rx ry q => ho pins s2 σ H2 x y v u Q I2 rx ry q)
/-! ### ints -/
theorem opI {f : Value → Value → Sem Value} {C : Int → Int → Prop} {g : Int → Int → Int}
    (rule : ∀ (i j : Int) (t u : Tok) (s : Shared) (Q : Value → Shared → Prop) (E : Value → Shared → Prop), C i j → Q (.int (g i j) s.toks) { s with toks := s.toks + 1 } → wpAny (model X.prog X.w) X.A (f (.int i t) (.int j u)) Q E s) :
    OpR X f (rI C fun i j => .int (g i j)) := by
  intro pins s σ H x y v u Q I rx ry h
  obtain ⟨i, j, rfl, rfl, hc, q⟩ := h
  obtain ⟨t, rfl⟩ := rx
  obtain ⟨t', rfl⟩ := ry
  exact rule i j t t' s _ _ hc ⟨.int (g i j), H, I.tok _, ⟨_, rfl⟩, q⟩
theorem opI0 {f : Value → Value → Sem Value} {g : Int → Int → Int}
    (rule : ∀ (i j : Int) (t u : Tok) (s : Shared) (Q : Value → Shared → Prop) (E : Value → Shared → Prop), Q (.int (g i j) s.toks) { s with toks := s.toks + 1 } → wpAny (model X.prog X.w) X.A (f (.int i t) (.int j u)) Q E s) :
    OpR X f (rI0 fun i j => .int (g i j)) := by
  intro pins s σ H x y v u Q I rx ry h
  obtain ⟨i, j, rfl, rfl, q⟩ := h
  obtain ⟨t, rfl⟩ := rx
  obtain ⟨t', rfl⟩ := ry
  exact rule i j t t' s _ _ ⟨.int (g i j), H, I.tok _, ⟨_, rfl⟩, q⟩
theorem opB0 {f : Value → Value → Sem Value} {g : Int → Int → Bool}
    (rule : ∀ (i j : Int) (t u : Tok) (s : Shared) (Q : Value → Shared → Prop) (E : Value → Shared → Prop), Q (.bool (g i j)) s → wpAny (model X.prog X.w) X.A (f (.int i t) (.int j u)) Q E s) :
    OpR X f (rI0 fun i j => .bl (g i j)) := by
  intro pins s σ H x y v u Q I rx ry h
  obtain ⟨i, j, rfl, rfl, q⟩ := h
  obtain ⟨t, rfl⟩ := rx
  obtain ⟨t', rfl⟩ := ry
  exact rule i j t t' s _ _ ⟨.bl (g i j), H, I, rfl, q⟩

def CDiv (i j : Int) : Prop := 0 < j ∧ j < 1073741824
def CMul (i j : Int) : Prop := (-(2 ^ 64) < i ∧ i < 2 ^ 64) ∨ (-(2 ^ 64) < j ∧ j < 2 ^ 64)
theorem CMul.ok {i j : Int} (h : CMul i j) : IntMulOk i j := by
  rcases h with ⟨h1, h2⟩ | ⟨h1, h2⟩
  · exact .of_left (intBits_le_64 h1 h2)
  · exact .of_right (intBits_le_64 h1 h2)
theorem op_add : OpR X (binaryOp .Add) (rI0 fun i j => .int (i + j)) := opI0 fun _ _ _ _ _ _ _ q => add_int q
theorem op_sub : OpR X (binaryOp .Sub) (rI0 fun i j => .int (i - j)) := opI0 fun _ _ _ _ _ _ _ q => sub_int q
theorem op_mul : OpR X (binaryOp .Mult) (rI CMul fun i j => .int (i * j)) := opI fun _ _ _ _ _ _ _ hc q => mul_int q hc.ok
theorem op_fdiv : OpR X (binaryOp .FloorDiv) (rI CDiv fun i j => .int (i / j)) := opI fun i j _ _ _ _ _ hc q => by
  have h1 : (0 : Int) < j := hc.1
  have h2 : j < 1073741824 := hc.2
  exact floordiv_int (by omega) (by rw [Int.fdiv_eq_ediv_of_nonneg i (by omega)]; exact q) (.inl (PyProof.noPylong_small (by omega)))
theorem op_mod : OpR X (binaryOp .Mod) (rI (fun _ j => 0 < j) fun i j => .int (i % j)) := opI fun i j _ _ _ _ _ hc q => by
  have h1 : (0 : Int) < j := hc
  exact mod_int' (by omega) (by rw [Int.fmod_eq_emod_of_nonneg i (by omega)]; exact q)
/-! ### bools among ints: n += (a < b) -/
end

/-! ### comparisons -/
def scal : V → V → Bool
  | .non, .non => true | .non, .int _ => true | .int _, .non => true | .non, .bl _ => true | .bl _, .non => true | .non, .str _ => true | .str _, .non => true
  | .int _, .int _ => true | .bl _, .bl _ => true | .str _, .str _ => true | .byt _, .byt _ => true
  | .int _, .str _ => true | .str _, .int _ => true | .bl _, .str _ => true | .str _, .bl _ => true
  | _, _ => false
def rEq : R2 := fun x y H Q => scal x y = true ∧ Q (.bl (decide (x = y))) H
def rNe : R2 := fun x y H Q => scal x y = true ∧ Q (.bl (!decide (x = y))) H

theorem dec_int {i j : Int} : decide (V.int i = V.int j) = (i == j) := by
  rw [Bool.eq_iff_iff]
  simp
theorem dec_bl {i j : Bool} : decide (V.bl i = V.bl j) = (i == j) := by
  rw [Bool.eq_iff_iff]
  simp
theorem dec_str {i j : Str} : decide (V.str i = V.str j) = (i == j) := by
  rw [Bool.eq_iff_iff]
  simp
theorem dec_byt {i j : Array UInt8} : decide (V.byt i = V.byt j) = (i.toList == j.toList) := by
  rw [Bool.eq_iff_iff]
  cases i
  cases j
  simp

section
variable {X : Cx} {a b c : Expr} {ta tb tc : TE} {pos : Pos}
theorem fin_bl {pins : List (Addr × Obj)} {σ : St} {H : Hp} {s : Shared} {Q : VK} {k k' : Bool} (I : Inv X pins σ H s) (q : Q (.bl k) H) (e : k = k') : EP X pins σ Q (.bool k') s := by
  subst e
  exact ⟨.bl k, H, I, rfl, q⟩
theorem op_eq : OpR X (compareOp .Eq) rEq := by
  intro pins s σ H x y v u Q I rx ry h
  obtain ⟨hs, q⟩ := h
  cases x with
  | non =>
    cases rx
    cases y with
    | non => cases ry; exact PySem.EqNone.eq_none_none (fin_bl I q (by simp))
    | bl j => cases ry; exact PySem.EqNone.eq_none_bool (fin_bl I q (by simp))
    | int j => obtain ⟨t', rfl⟩ := ry; exact PySem.EqNone.eq_none_int (fin_bl I q (by simp))
    | str j => obtain ⟨t', rfl⟩ := ry; exact PySem.EqNone.eq_none_str (fin_bl I q (by simp))
    | _ => exact absurd (show false = true from hs) Bool.false_ne_true
  | bl i =>
    cases rx
    cases y with
    | non => cases ry; exact PySem.EqNone.eq_bool_none (fin_bl I q (by simp))
    | bl j => cases ry; exact eq_bool (fin_bl I q dec_bl)
    | str j => obtain ⟨t', rfl⟩ := ry; exact PySem.EqMixed.eq_bool_str (fin_bl I q (by simp))
    | _ => exact absurd (show false = true from hs) Bool.false_ne_true
  | int i =>
    obtain ⟨t, rfl⟩ := rx
    cases y with
    | non => cases ry; exact PySem.EqNone.eq_int_none (fin_bl I q (by simp))
    | int j => obtain ⟨t', rfl⟩ := ry; exact eq_int (fin_bl I q dec_int)
    | str j => obtain ⟨t', rfl⟩ := ry; exact PySem.EqMixed.eq_int_str (fin_bl I q (by simp))
    | _ => exact absurd (show false = true from hs) Bool.false_ne_true
  | str i =>
    obtain ⟨t, rfl⟩ := rx
    cases y with
    | non => cases ry; exact PySem.EqNone.eq_str_none (fin_bl I q (by simp))
    | bl j => cases ry; exact PySem.EqMixed.eq_str_bool (fin_bl I q (by simp))
    | int j => obtain ⟨t', rfl⟩ := ry; exact PySem.EqMixed.eq_str_int (fin_bl I q (by simp))
    | str j => obtain ⟨t', rfl⟩ := ry; exact eq_str (fin_bl I q dec_str)
    | _ => exact absurd (show false = true from hs) Bool.false_ne_true
  | byt i =>
    obtain ⟨t, rfl⟩ := rx
    cases y with
    | byt j => obtain ⟨t', rfl⟩ := ry; exact PySem.W.eq_bytes (fin_bl I q dec_byt)
    | _ => exact absurd (show false = true from hs) Bool.false_ne_true
  | _ => cases y <;> exact absurd (show false = true from hs) Bool.false_ne_true
theorem op_ne : OpR X (compareOp .NotEq) rNe := by
  intro pins s σ H x y v u Q I rx ry h
  obtain ⟨hs, q⟩ := h
  cases x with
  | non =>
    cases rx
    cases y with
    | non => cases ry; exact PySem.EqNone.ne_none_none (fin_bl I q (by simp))
    | bl j => cases ry; exact PySem.EqNone.ne_none_bool (fin_bl I q (by simp))
    | int j => obtain ⟨t', rfl⟩ := ry; exact PySem.EqNone.ne_none_int (fin_bl I q (by simp))
    | str j => obtain ⟨t', rfl⟩ := ry; exact PySem.EqNone.ne_none_str (fin_bl I q (by simp))
    | _ => exact absurd (show false = true from hs) Bool.false_ne_true
  | bl i =>
    cases rx
    cases y with
    | non => cases ry; exact PySem.EqNone.ne_bool_none (fin_bl I q (by simp))
    | bl j => cases ry; exact ne_bool (fin_bl I q (congrArg not dec_bl))
    | str j => obtain ⟨t', rfl⟩ := ry; exact PySem.EqMixed.ne_bool_str (fin_bl I q (by simp))
    | _ => exact absurd (show false = true from hs) Bool.false_ne_true
  | int i =>
    obtain ⟨t, rfl⟩ := rx
    cases y with
    | non => cases ry; exact PySem.EqNone.ne_int_none (fin_bl I q (by simp))
    | int j => obtain ⟨t', rfl⟩ := ry; exact ne_int (fin_bl I q (congrArg not dec_int))
    | str j => obtain ⟨t', rfl⟩ := ry; exact PySem.EqMixed.ne_int_str (fin_bl I q (by simp))
    | _ => exact absurd (show false = true from hs) Bool.false_ne_true
  | str i =>
    obtain ⟨t, rfl⟩ := rx
    cases y with
    | non => cases ry; exact PySem.EqNone.ne_str_none (fin_bl I q (by simp))
    | bl j => cases ry; exact PySem.EqMixed.ne_str_bool (fin_bl I q (by simp))
    | int j => obtain ⟨t', rfl⟩ := ry; exact PySem.EqMixed.ne_str_int (fin_bl I q (by simp))
    | str j => obtain ⟨t', rfl⟩ := ry; exact ne_str (fin_bl I q (congrArg not dec_str))
    | _ => exact absurd (show false = true from hs) Bool.false_ne_true
  | byt i =>
    obtain ⟨t, rfl⟩ := rx
    cases y with
    | byt j => obtain ⟨t', rfl⟩ := ry; exact PySem.W.ne_bytes (fin_bl I q (congrArg not dec_byt))
    | _ => exact absurd (show false = true from hs) Bool.false_ne_true
  | _ => cases y <;> exact absurd (show false = true from hs) Bool.false_ne_true

theorem op_lt : OpR X (compareOp .Lt) (rI0 fun i j => .bl (decide (i < j))) := opB0 fun _ _ _ _ _ _ _ q => lt_int q
theorem op_gt : OpR X (compareOp .Gt) (rI0 fun i j => .bl (decide (j < i))) := opB0 fun _ _ _ _ _ _ _ q => gt_int q
theorem op_isN : OpR X (compareOp .Is) (fun x y H Q => y = .non ∧ Q (.bl (decide (x = .non))) H) := by
  intro pins s σ H x y v u Q I rx ry h
  obtain ⟨rfl, q⟩ := h
  cases ry
  refine is_none_gen (fin_bl I q ?_)
  cases x <;> first
    | (cases rx; rfl)
    | (obtain ⟨t, rfl⟩ := rx; rfl)
theorem op_notN : OpR X (compareOp .IsNot) (fun x y H Q => y = .non ∧ Q (.bl (!decide (x = .non))) H) := by
  intro pins s σ H x y v u Q I rx ry h
  obtain ⟨rfl, q⟩ := h
  cases ry
  refine isnot_none_gen (fin_bl I q ?_)
  cases x <;> first
    | (cases rx; rfl)
    | (obtain ⟨t, rfl⟩ := rx; rfl)

theorem nomark (b : Expr) {op : CmpOp} (h : op ≠ .In := by decide) (h2 : op ≠ .NotIn := by decide) : behindInMarks op b = false := by
  have e1 : (op == CmpOp.In) = false := by cases op <;> first | rfl | exact absurd rfl h
  have e2 : (op == CmpOp.NotIn) = false := by cases op <;> first | rfl | exact absurd rfl h2
  cases b <;> simp [behindInMarks, e1, e2]
theorem pe_cmpR {op : CmpOp} {r : R2} (ho : OpR X (compareOp op) r) (ha : PE X a ta) (hb : PE X b tb) (hm : behindInMarks op b = false) : PE X (.Compare a [op] [b] pos) (tOp r ta tb) := by
  intro pins s σ H Q I h
  exact wpAny_Compare1 (binT ha hb I h fun v u s2 x y H2 I2 rx ry q => ho pins s2 σ H2 x y v u Q I2 rx ry q) hm
def tTest (t : TE) : TT := fun σ H Q => t σ H fun x H' => ∃ k, x = .bl k ∧ Q k H'
theorem pt_cmpR {op : CmpOp} {r : R2} (ho : OpR X (compareOp op) r) (ha : PE X a ta) (hb : PE X b tb) (hm : behindInMarks op b = false) : PT X (.Compare a [op] [b] pos) (tTest (tOp r ta tb)) := by
  intro pins s σ H Q I h
  refine wpAny_isTrue_Compare1 (thn (ha pins s σ H _ I h) fun v s1 ⟨x, H1, I1, r1, q1⟩ => thn (hb pins s1 σ H1 _ I1 q1) fun u s2 ⟨y, H2, I2, r2, q2⟩ =>
    thn (ho pins s2 σ H2 x y v u _ I2 r1 r2 q2) fun c s3 ⟨z, H3, I3, r3, k, e, q3⟩ => ?_) hm
  subst e
  cases r3
  exact wpAny_truthy_bool ⟨H3, I3, q3⟩
/-! ### truth -/
theorem line63 : (sizeLine : Nat) < 2 ^ 63 := by rw [sizeLine_eq]; decide
/-! ### strs and bytes -/
/-! ### scalar builtins, by CallR -/
theorem vals1 {x : V} {us : List Value} (r : Vals [x] us) : ∃ u, us = [u] ∧ RelV x u := by
  cases r with
  | cons r1 r2 => cases r2; exact ⟨_, rfl, r1⟩
theorem vals2 {x y : V} {us : List Value} (r : Vals [x, y] us) : ∃ u w', us = [u, w'] ∧ RelV x u ∧ RelV y w' := by
  cases r with
  | cons r1 r2 =>
    cases r2 with
    | cons r3 r4 => cases r4; exact ⟨_, _, rfl, r1, r3⟩
theorem call_max2 (hc : X.calm = true) : CallR X (.builtin "max") (fun xs H Q => ∃ i j, xs = [.int i, .int j] ∧ Q (.int (if j > i then j else i)) H) := by
  intro pins s σ H xs us Q I r h
  obtain ⟨i, j, rfl, q⟩ := h
  obtain ⟨u, w', rfl, ⟨t, rfl⟩, ⟨t', rfl⟩⟩ := vals2 r
  refine max_two_ints (I.ok.hd hc) fun h' tk k => ⟨_, H, I.kept k, ?_, q⟩
  by_cases hj : j > i
  · rw [if_pos hj, if_pos hj]; exact ⟨_, rfl⟩
  · rw [if_neg hj, if_neg hj]; exact ⟨_, rfl⟩
theorem call_min2 (hc : X.calm = true) : CallR X (.builtin "min") (fun xs H Q => ∃ i j, xs = [.int i, .int j] ∧ Q (.int (if j < i then j else i)) H) := by
  intro pins s σ H xs us Q I r h
  obtain ⟨i, j, rfl, q⟩ := h
  obtain ⟨u, w', rfl, ⟨t, rfl⟩, ⟨t', rfl⟩⟩ := vals2 r
  refine min_two_ints (I.ok.hd hc) fun h' tk k => ⟨_, H, I.kept k, ?_, q⟩
  by_cases hj : j < i
  · rw [if_pos hj, if_pos hj]; exact ⟨_, rfl⟩
  · rw [if_neg hj, if_neg hj]; exact ⟨_, rfl⟩
theorem call_int1 : CallR X (.type "int") (fun xs H Q => (∃ i, xs = [.int i] ∧ Q (.int i) H) ∨ ∃ k, xs = [.bl k] ∧ Q (.int (if k then 1 else 0)) H) := by
  intro pins s σ H xs us Q I r h
  rcases h with ⟨i, rfl, q⟩ | ⟨k, rfl, q⟩
  · obtain ⟨u, rfl, t, rfl⟩ := vals1 r
    exact call_int_int ⟨.int i, H, I, ⟨_, rfl⟩, q⟩
  · obtain ⟨u, rfl, r1⟩ := vals1 r
    cases r1
    exact call_int_bool ⟨.int (if k then 1 else 0), H, I.tok _, ⟨_, rfl⟩, q⟩
end
end L2

namespace L2
open PySem PySem.Spec PyProof.Rows

/-! ### an instance, its attributes a map -/
structure ObjM (h : Heap) (x dx C : Addr) (mA : Str → Option Value) : Prop where
  obj : h.get? x = some (PySem.W.instObj C dx)
  ns : h.Ns1 dx mA
  ne : dx ≠ x

theorem lookIn_ns {h : Heap} {dx : Addr} {mA : Str → Option Value} (n : h.Ns1 dx mA) : ∃ od, h.get? dx = some od ∧ ∀ name, PySem.W.lookIn name od = some (mA name) := by
  obtain ⟨o, es, ep, ho, hd, hk, _, hm⟩ := n
  refine ⟨o, ho, fun name => ?_⟩
  have e := hm name
  unfold nsFind findBy at e
  rw [← Array.find?_toList] at e
  unfold PySem.W.lookIn
  rw [hd]
  dsimp only
  split
  · rename_i y q
    rw [q] at e
    exact congrArg some e
  · rename_i q
    rw [q] at e
    have a : es.toList.any (·.refKey) = false := by
      rw [List.any_eq_false]
      intro y hy
      obtain ⟨z, t, hkey⟩ := hk y (Array.mem_toList_iff.mp hy)
      simp [DictEntry.refKey, hkey]
    have a' : ¬ es.toList.any (·.refKey) = true := by rw [a]; exact Bool.false_ne_true
    rw [if_neg a']
    exact congrArg some e

theorem ObjM.look {h : Heap} {x dx C : Addr} {mA : Str → Option Value} (I : ObjM h x dx C mA) : ∃ od, PySem.W.InstAt h x (PySem.W.instObj C dx) C (some od) ∧ ∀ name, PySem.W.lookIn name od = some (mA name) :=
  let ⟨od, ho, hl⟩ := lookIn_ns I.ns
  ⟨od, ⟨I.obj, rfl, rfl, ho⟩, hl⟩

section
variable {prog : Program} {w : World} {A : Around} {E : Value → Shared → Prop} {s : Shared} {K : PySem.W.Frag} {x dx C f : Addr} {mA : Str → Option Value} {name : Str} {v : Value}

end

/-! ### the attributes as a list of pairs -/
def putF (f : Str) (v : V) : List (Str × V) → List (Str × V)
  | [] => [(f, v)]
  | (g, x) :: r => if g = f then (g, v) :: r else (g, x) :: putF f v r
section
variable {P : Program} {w : World} {H H' : Hp} {h h' : Heap} {a C dx : Addr} {fs fs' : List (Str × V)}
theorem ins_get (hok : HOk P w H h) (e : H a = some (.ins C dx fs)) : ∃ mA, ObjM h a dx C mA ∧ (∀ f, RelO (fs.lookup f) (mA f)) ∧ PySem.Within mA (fs.map (·.1)) ∧ fs.length ≤ 1000 ∧ H dx = some (.own a) := by
  obtain ⟨d, z, ne, ob, mA, n, r, q⟩ := (show ObjOk P w H h a (.ins C dx fs) from hok a _ e)
  exact ⟨mA, ⟨ob, n, ne⟩, r, q, z, d⟩
end

/-! ### what of the text a class must have -/
structure Cls (K : PySem.W.Frag) (C : Addr) : Prop where
  pg : PySem.W.plainGet K C Str.empty = true
  hd : PySem.W.hasDictIn K C = true
  po : PySem.W.plainOver K C = true
  sa : PySem.W.findIn K (.ref C) "__setattr__" = some (some (.builtin "object.__setattr__"))
theorem Cls.get {K : PySem.W.Frag} {C : Addr} (c : Cls K C) (f : Str) : PySem.W.plainGet K C f = true := c.pg
section
variable {X : Cx} {pins : List (Addr × Obj)} {σ : St} {H : Hp} {s : Shared} {a C dx : Addr} {fs : List (Str × V)} {f : Str} {v : V} {A : Around} {E : Value → Shared → Prop}

end

/-! ### readings and rules -/
section
variable {X : Cx} {o e value : Expr} {f : Str} {pos pos' tpos : Pos} {ta tv : TE}
end

/-! ### isinstance -/
section
variable {X : Cx} {pins : List (Addr × Obj)} {σ : St} {H : Hp} {s : Shared} {A : Around} {E : Value → Shared → Prop} {Q : Value → Shared → Prop} {c : Value} {b : Bool}
inductive TyOf (K : PySem.W.Frag) (H : Hp) : V → Value → Prop where
  | non : TyOf K H .non (.type "NoneType")
  | bl (x : Bool) : TyOf K H (.bl x) (.type "bool")
  | int (i : Int) : TyOf K H (.int i) (.type "int")
  | str (x : Str) : TyOf K H (.str x) (.type "str")
  | flt (x : UInt64) : TyOf K H (.flt x) (.type "float")
  | lst {a : Addr} {xs : List V} (e : H a = some (.lst xs)) : TyOf K H (.ref a) (.type "list")
  | frz {a : Addr} {o : Obj} {xs : List V} (e : H a = some (.frz o (.lst xs))) : TyOf K H (.ref a) (.type "list")
  | tup {a : Addr} {xs : List V} (e : H a = some (.tup xs)) : TyOf K H (.ref a) (.type "tuple")
  | dK {a : Addr} {kvs : List (Key × V)} (e : H a = some (.dK kvs)) : TyOf K H (.ref a) (.type "dict")
  | dT {a : Addr} {kvs : List (List Key × V)} (e : H a = some (.dT kvs)) : TyOf K H (.ref a) (.type "dict")
  | ins {a C dx : Addr} {fs : List (Str × V)} (e : H a = some (.ins C dx fs)) (cl : Cls K C) (ha : PySem.W.findIn K (.ref C) "__class__" = some (some (.builtin "object.__class__")))
      (hn : PySem.W.specialIn K (.builtin "object.__class__") "__get__" = some (some (.builtin "getset_descriptor.__get__"))) (htk : PySem.W.takesIn K (.builtin "object.__class__") = some true)
      (hm : PySem.W.mroIn K C (.type "object") = some true) : TyOf K H (.ref a) (.ref C)
theorem isinst_ok {x : V} {u t : Value} (I : Inv X pins σ H s) (rx : RelV x u) (ty : TyOf X.K H x t) (e : PySem.W.kitOne X.K t c = some b) (h : ∀ tk, Q (.bool b) { s with toks := tk }) :
    wpAny (model X.prog X.w) A (call (.builtin "isinstance") [u, c]) Q E s := by
  cases ty with
  | non => cases (show u = Value.none from rx); exact PySem.W.kia_one PySem.W.kitx_none I.kIn True.intro e (fun z => nomatch z) h
  | bl y => cases (show u = Value.bool y from rx); exact PySem.W.kia_one PySem.W.kitx_bool I.kIn True.intro e (fun z => nomatch z) h
  | int i => obtain ⟨t, q⟩ := (show ∃ t, u = Value.int i t from rx); cases q; exact PySem.W.kia_one PySem.W.kitx_int I.kIn True.intro e (fun z => nomatch z) h
  | str y => obtain ⟨t, q⟩ := (show ∃ t, u = Value.str y t from rx); cases q; exact PySem.W.kia_one PySem.W.kitx_str I.kIn True.intro e (fun z => nomatch z) h
  | flt y => obtain ⟨t, q⟩ := (show ∃ t, u = Value.float y t from rx); cases q; exact PySem.W.kia_one PySem.W.kitx_float I.kIn True.intro e (fun z => nomatch z) h
  | @lst a xs ea =>
    cases (show u = Value.ref a from rx)
    obtain ⟨_, _, n, _, h1⟩ := (show ObjOk X.prog X.w H s.heap a (.lst xs) from I.hok a _ ea)
    exact PySem.W.kia_one PySem.W.kitx_list I.kIn ⟨_, h1, rfl⟩ e (fun z => nomatch z) h
  | @frz a ob xs ea =>
    cases (show u = Value.ref a from rx)
    obtain ⟨_, _, _, n, _, h1⟩ := (show ObjOk X.prog X.w H s.heap a (.frz ob (.lst xs)) from I.hok a _ ea)
    exact PySem.W.kia_one PySem.W.kitx_list I.kIn ⟨_, h1, rfl⟩ e (fun z => nomatch z) h
  | @tup a xs ea =>
    cases (show u = Value.ref a from rx)
    obtain ⟨_, _, _, p⟩ := (show ObjOk X.prog X.w H s.heap a (.tup xs) from I.hok a _ ea)
    obtain ⟨o, h1, h2, _⟩ := p
    exact PySem.W.kia_one PySem.W.kitx_tuple I.kIn ⟨o, h1, h2⟩ e (fun z => nomatch z) h
  | @dK a kvs ea =>
    cases (show u = Value.ref a from rx)
    obtain ⟨_, _, vs, _, p⟩ := (show ObjOk X.prog X.w H s.heap a (.dK kvs) from I.hok a _ ea)
    obtain ⟨o, es, ep, h1, h2, _⟩ := p
    exact PySem.W.kia_one PySem.W.kitx_dict I.kIn ⟨o, h1, h2.1⟩ e (fun z => nomatch z) h
  | @dT a kvs ea =>
    cases (show u = Value.ref a from rx)
    obtain ⟨_, _, xs, _, o, es, ep, h1, h2, _⟩ := (show ObjOk X.prog X.w H s.heap a (.dT kvs) from I.hok a _ ea)
    exact PySem.W.kia_one PySem.W.kitx_dict I.kIn ⟨o, h1, h2.1⟩ e (fun z => nomatch z) h
  | @ins a C dx fs ea cl ha hn htk hm =>
    cases (show u = Value.ref a from rx)
    obtain ⟨mA, O, _⟩ := ins_get I.hok ea
    obtain ⟨od, J, _⟩ := O.look
    exact PySem.W.kia_one (PySem.W.kitx_own (cl.get _) cl.hd ha hn htk hm) I.kIn J e (fun z => nomatch z) h
end
end L2

namespace L2
open PySem PySem.Spec PyProof.Rows

/-! ### room -/
structure Room (k : Nat) (A : Around) : Prop where
  hd : A.handled = none
  dp : A.depth + 3 * k + 5 < recursionLimit
  un : A.units + 16 * k + 200 < cLine
theorem Room.mono {j k : Nat} {A : Around} (r : Room k A) (h : j ≤ k) : Room j A := ⟨r.hd, by have := r.dp; omega, by have := r.un; omega⟩
theorem Room.deeper {k : Nat} {A : Around} (r : Room (k + 1) A) (env : Env) : Room k (A.deeper env) :=
  ⟨r.hd, by have := r.dp; show A.depth + 1 + 3 * k + 5 < _; omega, by have := r.un; show A.units + 3 + 16 * k + 200 < _; omega⟩
theorem Room.depth {k : Nat} {A : Around} (r : Room k A) : A.depth < recursionLimit := by have := r.dp; omega
theorem Room.units {k : Nat} {A : Around} (r : Room k A) : A.units + 64 < cLine := by have := r.un; omega
/-! ### argument lists and displays -/
def tNil : TA := fun _ H Q => Q [] H
def tCons (ta : TE) (tr : TA) : TA := fun σ H Q => ta σ H fun x H1 => tr σ H1 fun xs H2 => Q (x :: xs) H2
section
variable {X : Cx} {e : Expr} {es : List Expr} {te : TE} {t : TA} {pos : Pos}
theorem pa_nil : PA X [] tNil := fun _ _ _ _ H Q I h => Calls.spliced_nil ⟨[], H, I, .nil, h⟩
theorem pa_cons (ha : PE X e te) (hr : PA X es t) (hs : starEach (e :: es) X.env = (false, eval e X.env) :: starEach es X.env := by rfl) : PA X (e :: es) (tCons te t) := by
  intro pos pins s σ H Q I h
  rw [hs]
  show wpAny _ _ (spliced ((false, eval e X.env) :: backTo pos (starEach es X.env))) _ _ s
  refine Calls.spliced_cons (thn (ha pins s σ H _ I h) fun u s1 ⟨x, H1, I1, r1, q1⟩ => ?_)
  exact thn (hr pos pins s1 σ H1 _ I1 q1) fun us s2 ⟨xs, H2, I2, r2, q2⟩ => ⟨x :: xs, H2, I2, .cons r1 r2, q2⟩

def tTup (t : TA) : TE := fun σ H Q => t σ H fun xs H1 => xs.length ≤ sizeLine ∧ ∀ p, H1 p = none → Q (.ref p) (upd H1 p (.tup xs))
def tLst (t : TA) : TE := fun σ H Q => t σ H fun xs H1 => xs.length ≤ sizeLine ∧ ∀ p, H1 p = none → Q (.ref p) (upd H1 p (.lst xs))
theorem pe_tup {x1} (h : PA X es t) : PE X (.Tuple es x1 pos) (tTup t) := by
  intro pins s σ H Q I hq
  refine wpAny_Tuple_spliced (thn (h pos pins s σ H _ I hq) fun us s1 ⟨xs, H1, I1, r, z, q⟩ => ⟨by rw [← r.length]; exact z, ?_⟩)
  have hf : H1 s1.heap.objs.size = none := I1.hok.fresh (Nat.le_refl _)
  refine ⟨.ref s1.heap.objs.size, upd H1 s1.heap.objs.size (.tup xs), I1.laid (t' := s1.toks) (fun b u e => Heap.get?_push_of_some _ e) (Nat.le_refl _) ?_, rfl, q _ hf⟩
  exact ⟨z, us, r, ⟨_, Heap.get?_push_size _ rfl, rfl, _, rfl⟩⟩
theorem pe_lst (h : PA X es t) : PE X (.List es pos) (tLst t) := by
  intro pins s σ H Q I hq
  refine wpAny_List_spliced (thn (h pos pins s σ H _ I hq) fun us s1 ⟨xs, H1, I1, r, z, q⟩ => ⟨by rw [← r.length]; exact z, ?_⟩)
  have hf : H1 s1.heap.objs.size = none := I1.hok.fresh (Nat.le_refl _)
  refine ⟨.ref s1.heap.objs.size, upd H1 s1.heap.objs.size (.lst xs), I1.laid (t' := s1.toks) (fun b u e => Heap.get?_push_of_some _ e) (Nat.le_refl _) ?_, rfl, q _ hf⟩
  exact ⟨z, us, 0, r, Heap.get?_push_size _ rfl⟩
end

/-! ### what a def promises -/
abbrev Sp := List V → Hp → VK → XK → Prop
abbrev CXT := List Env → Hp → Shared → XK → Value → Shared → Prop

structure Env0 (P : Program) (w : World) (K : PySem.W.Frag) (mg : Str → Option Value) (base : Heap) (A : Around) (outer : List Env) (s : Shared) (H : Hp) : Prop where
  frames : A.frames = some outer
  mod : Mod K mg base
  bs : ∀ b o, base.get? b = some o → s.heap.get? b = some o ∧ H b = none
  bsz : base.objs.size ≤ s.heap.objs.size
  funs : s.heap.FunFrames base outer
  frf : ∀ b ∈ frs outer, H b = none
  hok : HOk P w H s.heap
  bare : AllBare s.gens
def CE (outer : List Env) (P : Program) (w : World) (H : Hp) (s : Shared) (Q : VK) (u : Value) (s' : Shared) : Prop :=
  ∃ v H', s'.os = s.os ∧ AllBare s'.gens ∧ Un (frs outer) [] H H' s.heap s'.heap ∧ HOk P w H' s'.heap ∧ RelV v u ∧ Q v H'
def CR (CX : CXT) (outer : List Env) (P : Program) (w : World) (H : Hp) (s : Shared) (Q : VK) (E : XK) (r : Result) (s' : Shared) : Prop :=
  match r with
  | .ok (.ret u) => CE outer P w H s Q u s'
  | .ok _ => False
  | .error e => CX outer H s E e s'
structure FnOk (P : Program) (w : World) (K : PySem.W.Frag) (mg : Str → Option Value) (base : Heap) (CX : CXT) (k : Nat) (f : Addr) (fd : FuncData) (ps : List Str) (sp : Sp) : Prop where
  len : ∀ vs H Q E, sp vs H Q E → vs.length = ps.length
  run : ∀ (A : Around) (outer : List Env) (s : Shared) (H : Hp) (args : Args) (us : List Value) (vs : List V) (Q : VK) (E : XK), Room k A → Env0 P w K mg base A outer s H → BindsTo s fd args (ps.zip us) → Vals vs us → sp vs H Q E →
    codeAny (model P w) A (.call (.ref f) args) (CR CX outer P w H s Q E) s
section
variable {X : Cx} {pins : List (Addr × Obj)} {σ : St} {H : Hp} {s s' : Shared}
theorem Inv.env0 (I : Inv X pins σ H s) : Env0 X.prog X.w X.K X.mg X.base X.A X.stack s H :=
  ⟨I.ok.frames, I.ok.mod, I.bs, Nat.le_trans I.ok.bsz I.sz, I.stack, I.stkFree, I.hok, I.bare⟩
theorem Inv.after {Q : VK} {u : Value} (I : Inv X pins σ H s) (h : CE X.stack X.prog X.w H s Q u s') : EP X pins σ Q u s' := by
  obtain ⟨v, H', os, bare, un, hok, r, q⟩ := h
  obtain ⟨hh, g, d, t, os'⟩ := s'
  obtain rfl : os' = s.os := os
  exact ⟨v, H', I.call (h' := hh) (g' := g) (d' := d) (t' := t) (ch := []) un hok bare (fun b z => absurd z (by simp)), r, q⟩
end

/-! ### calls -/
def Binds (K : PySem.W.Frag) (fd : FuncData) (ps : List Str) (ds : List Value) : Prop :=
  ∀ (s : Shared) (us : List Value), K.In s.heap → (us ++ ds).length = ps.length → BindsTo s fd ⟨us, []⟩ (ps.zip (us ++ ds))
theorem Binds.all {K : PySem.W.Frag} {fd : FuncData} {ps : List Str} (h : ∀ us : List Value, us.length = ps.length → bindArgs fd ⟨us, []⟩ = pure (ps.zip us)) : Binds K fd ps [] := fun s us _ hl => by
  rw [List.append_nil] at hl ⊢
  exact .of_eq (h us hl)

def Passes (CX : CXT) (X : Cx) (E : XK) : Prop := ∀ (pins : List (Addr × Obj)) (σ : St) (H : Hp) (s : Shared) (e : Value) (s' : Shared), Inv X pins σ H s → CX X.stack H s E e s' → X.xe e s'

section
variable {X : Cx} {CX : CXT} {k : Nat} {f C : Addr} {fd : FuncData} {ps : List Str} {sp : Sp} {dvs : List V} {ds : List Value} {E : XK} {x m : Str} {p pos apos : Pos} {e o : Expr} {es : List Expr} {ta : TE} {t : TA}

theorem run_fn {pins : List (Addr × Obj)} {σ : St} {H : Hp} {s : Shared} {Q : VK} {us : List Value} {vs : List V} (F : FnOk X.prog X.w X.K X.mg X.base CX k f fd ps sp) (hr : Room k X.A) (hb : Binds X.K fd ps ds) (hd : Vals dvs ds) (hx : Passes CX X E)
    (I : Inv X pins σ H s) (r : Vals vs us) (h : sp (vs ++ dvs) H Q E) : wpAny (model X.prog X.w) X.A (call (.ref f) us) (EP X pins σ Q) X.xe s := by
  have r2 : Vals (vs ++ dvs) (us ++ ds) := r.append hd
  have hl : (us ++ ds).length = ps.length := by rw [← r2.length]; exact F.len _ _ _ _ h
  refine wpAny_call (codeAny_mono (F.run X.A X.stack s H ⟨us, []⟩ (us ++ ds) (vs ++ dvs) Q E hr I.env0 (hb s us I.kIn hl) r2 h) fun r s' hq => ?_)
  cases r with
  | error e => exact hx pins σ H s e s' I hq
  | ok fl =>
    cases fl with
    | ret u => exact I.after hq
    | next => exact False.elim hq
    | brk => exact False.elim hq
    | cont => exact False.elim hq

structure Mk (K : PySem.W.Frag) (C f : Addr) : Prop where
  makes : PySem.W.makesIn K C = true
  init : PySem.W.findIn K (.ref C) "__init__" = some (some (.ref f))
  fn : PySem.W.isFn K (.ref f) = true
  kp : PySem.W.keepIn K (.ref C) = true

end

/-! ### keywords -/
section
variable {X : Cx} {CX : CXT} {k : Nat} {f C : Addr} {fd : FuncData} {ps ks : List Str} {sp : Sp} {E : XK} {x m : Str} {p pos apos kpos : Pos} {e o : Expr} {es : List Expr} {kws : List Keyword} {te ta : TE} {t tk : TA} {nm : Option Str}
variable {g : List Value → List Value → List Value} {gV : List V → List V → List V}
end

/-! ### a def's body keeps its promise -/
structure FnScope (N P : List Str) (sc : Scope) : Prop where
  kind : sc.kind = .function
  co : sc.isCoroutine = false
  gen : sc.isGenerator = false
  nd : N.Nodup
  pre : N.take P.length = P
  par : ∀ x ∈ P, sc.names.lookup x = some .local ∨ sc.names.lookup x = some .cell
  nofree : ∀ y ∈ sc.names, y.2 ≠ .free

theorem bindL_out {kindOf : Str → Option NameKind} {x : Str} : ∀ {binds : List (Str × Value)} {m : Str → Option Value}, (∀ v, (x, v) ∉ binds) → bindL kindOf binds m x = m x
  | [], _, _ => rfl
  | (n, v) :: r, m, h => by
    unfold bindL
    rw [bindL_out fun w hw => h w (List.mem_cons_of_mem _ hw)]
    split
    · have : x ≠ n := by rintro rfl; exact h v List.mem_cons_self
      simp [this]
    · rfl
theorem bindC_out {kindOf : Str → Option NameKind} {x : Str} : ∀ {binds : List (Str × Value)} {m : Str → Option Value}, (∀ v, (x, v) ∉ binds) → bindC kindOf binds m x = m x
  | [], _, _ => rfl
  | (n, v) :: r, m, h => by
    unfold bindC
    rw [bindC_out fun w hw => h w (List.mem_cons_of_mem _ hw)]
    split
    · rfl
    · have : x ≠ n := by rintro rfl; exact h v List.mem_cons_self
      simp [this]
theorem bindL_get {kindOf : Str → Option NameKind} {x : Str} {v : Value} : ∀ {P : List Str} {vs : List Value} {i : Nat} {m : Str → Option Value}, P.Nodup → P[i]? = some x → vs[i]? = some v → kindOf x = some .local →
    bindL kindOf (P.zip vs) m x = some v
  | [], _, _, _, _, h, _, _ => by simp at h
  | _ :: _, [], _, _, _, _, h, _ => by simp at h
  | p :: P, w :: vs, 0, m, nd, h1, h2, hk => by
    simp at h1 h2; subst h1; subst h2
    show bindL kindOf ((p, w) :: P.zip vs) m p = _
    unfold bindL
    rw [bindL_out fun v hv => (List.nodup_cons.mp nd).1 (List.of_mem_zip hv).1, if_pos hk]
    simp
  | p :: P, w :: vs, i + 1, m, nd, h1, h2, hk => by
    show bindL kindOf ((p, w) :: P.zip vs) m x = _
    unfold bindL
    exact bindL_get (i := i) (List.nodup_cons.mp nd).2 (by simpa using h1) (by simpa using h2) hk
theorem bindC_get {kindOf : Str → Option NameKind} {x : Str} {v : Value} : ∀ {P : List Str} {vs : List Value} {i : Nat} {m : Str → Option Value}, P.Nodup → P[i]? = some x → vs[i]? = some v → kindOf x ≠ some .local →
    bindC kindOf (P.zip vs) m x = some v
  | [], _, _, _, _, h, _, _ => by simp at h
  | _ :: _, [], _, _, _, _, h, _ => by simp at h
  | p :: P, w :: vs, 0, m, nd, h1, h2, hk => by
    simp at h1 h2; subst h1; subst h2
    show bindC kindOf ((p, w) :: P.zip vs) m p = _
    unfold bindC
    rw [bindC_out fun v hv => (List.nodup_cons.mp nd).1 (List.of_mem_zip hv).1, if_neg hk]
    simp
  | p :: P, w :: vs, i + 1, m, nd, h1, h2, hk => by
    show bindC kindOf ((p, w) :: P.zip vs) m x = _
    unfold bindC
    exact bindC_get (i := i) (List.nodup_cons.mp nd).2 (by simpa using h1) (by simpa using h2) hk

def start (N : List Str) (vs : List V) : St := vs.map some ++ List.replicate (N.length - vs.length) none

def cxOf (CX : CXT) (P : Program) (w : World) (K : PySem.W.Frag) (mg : Str → Option Value) (base : Heap) (N : List Str) (qual : Str) (scope : Scope) (f : Addr) (cd : Value) (A : Around) (outer : List Env) (s : Shared) (H : Hp) (E : XK) : Cx where
  prog := P
  w := w
  K := K
  mg := mg
  base := base
  A := A.deeper (envOfC qual scope s.heap.objs.size f cd)
  N := N
  s₀ := s
  H₀ := H
  env := envOfC qual scope s.heap.objs.size f cd
  outer := outer
  stack := envOfC qual scope s.heap.objs.size f cd :: outer
  ex := []
  calm := true
  fn := fun _ => true
  pn := []
  xe := fun e s' => wpAny (model P w) (A.deeper (envOfC qual scope s.heap.objs.size f cd)) (leaving (envOfC qual scope s.heap.objs.size f cd) e) (fun _ s'' => CX outer H s E e s'') (fun e' s'' => CX outer H s E e' s'') s'

theorem cell_has {sc : Scope} {n : Nat} {x : Str} (h : sc.names.lookup x = some .cell) : ∃ c, (cellsFrom n sc.names []).lookup x = some c := by
  have q := PySem.W.cellsFrom_some sc.names n [] (.inl h)
  exact Option.isSome_iff_exists.mp q

theorem inv_start {CX : CXT} {P : Program} {w : World} {K : PySem.W.Frag} {mg : Str → Option Value} {base : Heap} {N ps : List Str} {qual : Str} {scope : Scope} {f : Addr} {cd : Value} {A : Around} {outer : List Env} {s s1 : Shared} {H : Hp} {E : XK} {us : List Value} {vs : List V}
    (S : FnScope N ps scope) (hd : A.handled = none) (e0 : Env0 P w K mg base A outer s H) (hl : vs.length = ps.length) (r : Vals vs us)
    (x : InCallC s s.heap.objs.size (bindL (envOfC qual scope s.heap.objs.size f cd).kindOf (ps.zip us) fun _ => none) (cellsFrom (s.heap.objs.size + 1) scope.names []) (bindC (envOfC qual scope s.heap.objs.size f cd).kindOf (ps.zip us) fun _ => none) s1) :
    Inv (cxOf CX P w K mg base N qual scope f cd A outer s H E) [] (start N vs) H s1 := by
  have hpl : ps.length ≤ N.length := by have := congrArg List.length S.pre; rw [List.length_take] at this; omega
  obtain ⟨h1, tk, rfl, hk⟩ := x.done
  have noA : ∀ b : Addr, b ∉ (cxOf CX P w K mg base N qual scope f cd A outer s H E).ex := fun b z => absurd (show b ∈ ([] : List Addr) from z) (by simp)
  refine ⟨⟨e0.mod, S.kind, rfl, rfl, Nat.le_refl _, fun y z c h1 h2 => ?_, fun y hy => ?_, fun y c _ h => ?_, fun _ => hd, Around.frames_deeper e0.frames, .inr ⟨rfl, rfl⟩, fun b z => absurd z (noA b), e0.bs, e0.bsz, fun b _ _ => noA b, fun b z => absurd z (noA b), e0.funs, e0.frf⟩,
    rfl, e0.bare, Un.kept hk, ⟨_, x.toInCall.ns, fun i y v h1 h2 h3 => ?_⟩, fun y c h => ⟨_, x.cell y c h⟩, e0.hok.fresh (Nat.le_refl _), fun y c h => ?_, fun p hp => absurd (show p ∈ ([] : List (Addr × Obj)) from hp) (by simp), e0.hok.kept hk, ?_⟩
  · exact name_of_addr x.apart (PySem.mem_of_lookup h1) (PySem.mem_of_lookup h2)
  · have hy : scope.names.lookup y = some .cell ∨ scope.names.lookup y = some .free := hy
    rcases hy with hy | hy
    · exact cell_has hy
    · exact absurd rfl (S.nofree _ (PySem.mem_of_lookup hy))
  · exact Nat.le_of_lt (x.above y c (PySem.mem_of_lookup h))
  · have hi : i < vs.length := by
      unfold start at h2
      by_cases hi : i < vs.length
      · exact hi
      · rw [List.getElem?_append_right (by simpa using hi)] at h2
        rw [List.getElem?_replicate] at h2
        split at h2 <;> cases h2
    have ha : vs[i]? = some v := by
      unfold start at h2
      rw [List.getElem?_append_left (by simpa using hi), List.getElem?_map] at h2
      cases e : vs[i]? with
      | none => rw [e] at h2; cases h2
      | some a => rw [e] at h2; cases h2; rfl
    obtain ⟨u, hu, rv⟩ := r.get ha
    have hp : ps[i]? = some y := by
      rw [← S.pre, List.getElem?_take_of_lt (by omega)]; exact h1
    have ndP : ps.Nodup := by rw [← S.pre]; exact S.nd.sublist (List.take_sublist _ _)
    refine ⟨u, rv, ?_⟩
    rcases S.par y (List.mem_of_getElem? hp) with k | k
    · exact .inl ⟨k, bindL_get ndP hp hu k⟩
    · obtain ⟨c, e⟩ := cell_has (n := s.heap.objs.size + 1) k
      refine .inr ⟨.inl k, c, e, ?_⟩
      have q := x.cell y c e
      rw [bindC_get ndP hp hu (by show scope.names.lookup y ≠ _; rw [k]; decide)] at q
      exact q
  · exact e0.hok.fresh (Nat.le_of_lt (x.above y c (PySem.mem_of_lookup h)))
  · unfold start
    show _ = N.length
    rw [List.length_append, List.length_map, List.length_replicate]
    omega

theorem fn_of {CX : CXT} {P : Program} {w : World} {K : PySem.W.Frag} {mg : Str → Option Value} {base : Heap} {k : Nat} {f : Addr} {name qual : Str} {params : Arguments} {body : List Stmt} {scope : Scope} {dV kV doc pm cdv ct oc : Value} {an od : Option Addr}
    {osl : Array (Option Value)} {N ps : List Str} {sp : Sp} (lk : K.lookup f = some ⟨oc, od, .func (PySem.W.fnOf name qual params body scope dV kV doc pm an cdv ct), osl⟩) (hcd : PySem.W.codeIn K cdv qual = true) (S : FnScope N ps scope)
    (len : ∀ vs H Q E, sp vs H Q E → vs.length = ps.length)
    (hbody : ∀ (A : Around) (outer : List Env) (s : Shared) (H : Hp) (vs : List V) (Q : VK) (E : XK), Room k (A.deeper (envOfC qual scope s.heap.objs.size f cdv)) → sp vs H Q E →
      ∃ t, PSs (cxOf CX P w K mg base N qual scope f cdv A outer s H E) body t ∧ t { nx := fun _ H' => Q .non H', rt := Q } (start N vs) H) :
    FnOk P w K mg base CX (k + 1) f (PySem.W.fnOf name qual params body scope dV kV doc pm an cdv ct) ps sp := by
  refine ⟨len, fun A outer s H args us vs Q E hr e0 hb r hsp => ?_⟩
  have hl := len _ _ _ _ hsp
  have KX : K.In s.heap := e0.mod.kin.keeps fun b o e => (e0.bs b o e).1
  have lim : s.heap.NoLimit := e0.mod.nolimit.keeps fun b o e => (e0.bs b o e).1
  have hkind : ∀ y ∈ ps.zip us, scope.names.lookup y.1 = some .local ∨ (scope.names.lookup y.1 = some .cell ∧ ((cellsFrom (s.heap.objs.size + 1) scope.names []).lookup y.1).isSome = true) := fun ⟨n, v⟩ hy => by
    rcases S.par n (List.of_mem_zip hy).1 with q | q
    · exact .inl q
    · exact .inr ⟨q, PySem.W.cellsFrom_some _ _ _ (.inl q)⟩
  refine codeAny_call_function hr.depth (KX _ _ lk) rfl S.co S.gen rfl (PySem.W.codeRec_of KX hcd) (hb _ _ _ _ ?_)
  refine wpAny_newFunctionEnv_cells S.kind hkind fun env he s1 x => ?_
  subst he
  refine ⟨lim.keeps x.toInCall.keep, codeAny_func ?_⟩
  obtain ⟨t, ht, hq⟩ := hbody A outer s H vs Q E (hr.deeper _) hsp
  have I : Inv (cxOf CX P w K mg base N qual scope f cdv A outer s H E) [] (start N vs) H s1 := inv_start S hr.hd e0 hl r x
  refine wpAny_mono (ht [] s1 (start N vs) H _ I hq) (fun fl s' hs => ?_) fun e s' hs => hs
  have fin : ∀ {σ' : St} {H' : Hp} {v : V} {u : Value}, Inv (cxOf CX P w K mg base N qual scope f cdv A outer s H E) [] σ' H' s' → RelV v u → Q v H' → CE outer P w H s Q u s' :=
    fun {σ' H' v u} J rv q => ⟨v, H', J.os, J.bare, J.base, J.hok, rv, q⟩
  cases fl with
  | ret u =>
    obtain ⟨v, σ', H', J, rv, q⟩ := hs
    exact fin J rv q
  | next =>
    obtain ⟨σ', H', J, q⟩ := hs
    exact fin (v := V.non) (u := Value.none) J rfl q
  | brk =>
    obtain ⟨_, _, _, q⟩ := hs
    exact False.elim q
  | cont =>
    obtain ⟨_, _, _, q⟩ := hs
    exact False.elim q
end L2

namespace L2
open PySem PySem.Spec PyProof.Rows
section
variable {X : Cx} {x : Str} {p pos : Pos} {e : Expr} {es : List Expr} {t : TA} {id T : String} {r : List V → Hp → VK → Prop}

def tCB (r : List V → Hp → VK → Prop) (t : TA) : TE := fun σ H Q => t σ H fun vs H1 => r vs H1 Q
theorem pe_callB (hc : CallR X (.builtin id) r) (hg : Gl X x) (hm : X.mg x = none) (hv : bootBuiltins x = some (.builtin id)) (ha : PA X (e :: es) t) (hn : x ≠ "__name__" := by decide) (hdb : (x == ("__debug__" : Str)) = false := by decide)
    (he : starEach (e :: es) X.env = (false, eval e X.env) :: starEach es X.env := by rfl) (hpl : (backTo pos (starEach es X.env)).any (·.1) = false := by rfl) : PE X (.Call (.Name x p) (e :: es) [] pos) (tCB r t) := by
  intro pins s σ H Q I h
  refine wpAny_Call_Name_kw (ld_blt I hg hm hv ?_ hn hdb)
  exact PyProof.Rows.callWith_builtin1 (thn (ha pos pins s σ H _ I h) fun us s1 ⟨vs, H1, I1, r1, q1⟩ => hc pins s1 σ H1 vs us Q I1 r1 q1) he hpl
theorem pe_callTy (hc : CallR X (.type T) r) (hg : Gl X x) (hm : X.mg x = none) (hv : bootBuiltins x = some (.type T)) (ha : PA X (e :: es) t) (hn : x ≠ "__name__" := by decide) (hdb : (x == ("__debug__" : Str)) = false := by decide)
    (he : starEach (e :: es) X.env = (false, eval e X.env) :: starEach es X.env := by rfl) (hpl : (backTo pos (starEach es X.env)).any (·.1) = false := by rfl) : PE X (.Call (.Name x p) (e :: es) [] pos) (tCB r t) := by
  intro pins s σ H Q I h
  refine wpAny_Call_Name_kw (ld_blt I hg hm hv ?_ hn hdb)
  exact PyProof.Rows.callWith_type1 (thn (ha pos pins s σ H _ I h) fun us s1 ⟨vs, H1, I1, r1, q1⟩ => hc pins s1 σ H1 vs us Q I1 r1 q1) he hpl
end
end L2

namespace HT
open PySem PyProof.Rows

def lexLt : List Int → List Int → Bool
  | [], [] => false
  | [], _ :: _ => true
  | _ :: _, [] => false
  | x :: xs, y :: ys => if x = y then lexLt xs ys else decide (x < y)
section
open PySem.SeqAt
open PySem.AutoSeq1 (wpAny_loadPart')
open PySem.MeetsSeq PySem.MeetsSeq2 PySem.MeetsSeq3

end

section
variable {prog : Program} {w : World} {A : Around} {E : Value → Shared → Prop} {s : Shared}

/-! ### t[a:b], not the whole -/
def sIx (n d : Nat) : Option Int → Nat
  | none => d
  | some v => if v < 0 then (v + (n : Int)).toNat else min v.toNat n
theorem sIx_le (n d : Nat) (hd : d ≤ n) (o : Option Int) : sIx n d o ≤ n := by
  cases o with
  | none => exact hd
  | some v =>
    show (if v < 0 then (v + (n : Int)).toNat else min v.toNat n) ≤ n
    by_cases hv : v < 0
    · rw [if_pos hv]; omega
    · rw [if_neg hv]; exact Nat.min_le_right _ _
end
end HT

namespace L2
open PySem PySem.Spec PyProof.Rows

/-! ### the parts of a slice -/
abbrev TO := St → Hp → (Option Int → Hp → Prop) → Prop
def PO (X : Cx) (e : Option Expr) (t : TO) : Prop :=
  ∀ (pins : List (Addr × Obj)) (s : Shared) (σ : St) (H : Hp) (Q : Option Int → Hp → Prop), Inv X pins σ H s → t σ H Q →
    wpAny (model X.prog X.w) X.A (evalPart e X.env) (fun u s' => ∃ o H', Inv X pins σ H' s' ∧ IsPart u o ∧ Q o H') X.xe s
def tNoPart : TO := fun _ H Q => Q none H
def tPart (t : TE) : TO := fun σ H Q => t σ H fun x H1 => ∃ i, x = .int i ∧ Q (some i) H1

section
variable {X : Cx} {e : Expr} {te : TE} {lo hi : Option Expr} {tl th : TO} {pos p2 : Pos}

theorem po_none : PO X none tNoPart := by
  intro pins s σ H Q I h
  rw [evalPart_none]
  exact wpAny_pure ⟨none, H, I, .none, h⟩
theorem po_some (h : PE X e te) : PO X (some e) (tPart te) := by
  intro pins s σ H Q I hw
  rw [evalPart_some]
  refine thn (h pins s σ H _ I hw) fun u s1 ⟨x, H1, I1, r1, q1⟩ => ?_
  obtain ⟨i, rfl, q⟩ := q1
  obtain ⟨t, rfl⟩ := r1
  exact ⟨some i, H1, I1, .int i t, q⟩

def SlR (X : Cx) (r : V → Option Int → Option Int → Hp → VK → Prop) : Prop :=
  ∀ (pins : List (Addr × Obj)) (s : Shared) (σ : St) (H : Hp) (x : V) (v vl vu : Value) (lo hi : Option Int) (sl : Addr) (Q : VK), Inv X pins σ H s → RelV x v → s.heap.IsSliceOf sl vl vu .none → IsPart vl lo → IsPart vu hi → r x lo hi H Q →
    ∃ T id, typeLookup (.type T) "__getitem__" = pure (some (.builtin id)) ∧ s.TypeIs v T ∧ wpAny (model X.prog X.w) X.A (getItem v (.ref sl)) (EP X pins σ Q) X.xe s
def tSl (r : V → Option Int → Option Int → Hp → VK → Prop) (te : TE) (tl th : TO) : TE := fun σ H Q => te σ H fun x H1 => tl σ H1 fun l H2 => th σ H2 fun u H3 => r x l u H3 Q
theorem pe_slice {r : V → Option Int → Option Int → Hp → VK → Prop} (hr : SlR X r) (he : PE X e te) (hl : PO X lo tl) (hu : PO X hi th) : PE X (.Subscript e (.Slice lo hi none p2) pos) (tSl r te tl th) := by
  intro pins s σ H Q I h
  refine Subscript_ (thn (he pins s σ H _ I h) fun v s1 ⟨x, H1, I1, r1, q1⟩ => ?_)
  refine wpAny_Slice (thn (hl pins s1 σ H1 _ I1 q1) fun vl s2 ⟨l, H2, I2, pl, q2⟩ => thn (hu pins s2 σ H2 _ I2 q2) fun vu s3 ⟨u, H3, I3, pu, q3⟩ => ?_)
  rw [evalPart_none]
  refine wpAny_pure ?_
  have I4 : Inv X pins σ H3 { s3 with heap := s3.heap.push { cls := .type "slice", data := .fields #[vl, vu, .none] } } := I3.kept (t' := s3.toks) fun b ob q => Heap.get?_push_of_some _ q
  obtain ⟨T, id, hT, ht, hg⟩ := hr pins { s3 with heap := s3.heap.push { cls := .type "slice", data := .fields #[vl, vu, .none] } } σ H3 x v vl vu l u s3.heap.objs.size Q I4 r1 (Heap.IsSliceOf.new ..) pl pu q3
  show wpAny (model X.prog X.w) X.A (subscriptTail e (.Slice lo hi none p2) v (.ref s3.heap.objs.size)) (EP X pins σ Q) X.xe { s3 with heap := s3.heap.push { cls := .type "slice", data := .fields #[vl, vu, .none] } }
  exact tail_any (ops := [.ref s3.heap.objs.size, v]) ht hT hg (by with_unfolding_all rfl)

/-! ### t < u, t + u -/
end
end L2

namespace L2
open PySem PySem.Spec PyProof.Rows

/-! ### places -/
def ixN (n : Nat) (i : Int) : Option Nat := if 0 ≤ i then (if i < n then some i.toNat else none) else if -(n : Int) ≤ i then some (i + n).toNat else none
def atI {α : Type} (xs : List α) (i : Int) : Option α := (ixN xs.length i).bind fun j => xs[j]?
theorem ixN_seq {n : Nat} {i : Int} {j : Nat} (h : ixN n i = some j) : seqIndex? i n = some j ∧ j < n ∧ -(n : Int) ≤ i ∧ i < n := by
  unfold ixN at h
  by_cases h0 : 0 ≤ i
  · rw [if_pos h0] at h
    by_cases h1 : i < n
    · rw [if_pos h1] at h
      have e : i.toNat = j := Option.some.inj h
      exact ⟨by rw [seqIndex_of h0 h1, e], by omega, by omega, h1⟩
    · rw [if_neg h1] at h; cases h
  · rw [if_neg h0] at h
    by_cases h1 : -(n : Int) ≤ i
    · rw [if_pos h1] at h
      have e : (i + n).toNat = j := Option.some.inj h
      exact ⟨by rw [seqIndex_neg (by omega) h1, e], by omega, h1, by omega⟩
    · rw [if_neg h1] at h; cases h
theorem atI_get {α : Type} {xs : List α} {i : Int} {v : α} (h : atI xs i = some v) : ∃ j, seqIndex? i xs.length = some j ∧ xs[j]? = some v ∧ j < xs.length ∧ -(xs.length : Int) ≤ i ∧ i < xs.length := by
  unfold atI at h
  cases e : ixN xs.length i with
  | none => rw [e] at h; cases h
  | some j =>
    rw [e] at h
    obtain ⟨h1, h2, h3, h4⟩ := ixN_seq e
    exact ⟨j, h1, h, h2, h3, h4⟩
theorem atI_nat {α : Type} {xs : List α} {j : Nat} {v : α} (h : xs[j]? = some v) : atI xs (j : Int) = some v := by
  have hj : j < xs.length := (List.getElem?_eq_some_iff.mp h).1
  have e : ixN xs.length (j : Int) = some j := by
    unfold ixN
    rw [if_pos (by omega), if_pos (by omega)]; simp
  unfold atI; rw [e]; exact h
/-! ### what may be subscripted -/
def PlainIx (b : Expr) : Prop := ∀ o i, subscripted b false o i = operate [o, i] (getItem o i)
def IxR (X : Cx) (r : R2) : Prop :=
  ∀ (value slice : Expr) (pins : List (Addr × Obj)) (s : Shared) (σ : St) (H : Hp) (x y : V) (v u : Value) (Q : VK), Inv X pins σ H s → RelV x v → RelV y u → r x y H Q →
    subscripted slice false v u = operate [v, u] (getItem v u) → wpAny (model X.prog X.w) X.A (subscriptTail value slice v u) (EP X pins σ Q) X.xe s
def MtR (X : Cx) (id : String) (r : V → List V → Hp → VK → Prop) : Prop :=
  ∀ (pins : List (Addr × Obj)) (s : Shared) (σ : St) (H : Hp) (x : V) (xs : List V) (v : Value) (us : List Value) (Q : VK), Inv X pins σ H s → RelV x v → Vals xs us → r x xs H Q →
    wpAny (model X.prog X.w) X.A (call (.builtin id) (v :: us)) (EP X pins σ Q) X.xe s
section
variable {X : Cx} {a b : Expr} {ta tb : TE} {pos : Pos}
theorem pe_ix {r : R2} (hr : IxR X r) (ha : PE X a ta) (hb : PE X b tb) (hs : PlainIx b) : PE X (.Subscript a b pos) (tOp r ta tb) := by
  intro pins s σ H Q I h
  exact Subscript_ (binT ha hb I h fun v u s2 x y H2 I2 rx ry q => hr a b pins s2 σ H2 x y v u Q I2 rx ry q (hs _ _))

def rIxL (K : PySem.W.Frag) : R2 := fun x y H Q => ∃ p xs i v, x = .ref p ∧ y = .int i ∧ SqL K H p xs ∧ atI xs i = some v ∧ Q v H
def rIxT (K : PySem.W.Frag) : R2 := fun x y H Q => ∃ p xs i v, x = .ref p ∧ y = .int i ∧ SqT K H p xs ∧ atI xs i = some v ∧ Q v H
def rIxS : R2 := fun x y H Q => ∃ z i c, x = .str z ∧ y = .int i ∧ z.length ≤ sizeLine ∧ atI z.cps.toList i = some c ∧ Q (.str ⟨#[c]⟩) H
theorem ix_list : IxR X (rIxL X.K) := by
  intro value slice pins s σ H x y v u Q I rx ry h hs
  obtain ⟨p, xs, i, z, rfl, rfl, hq, he, q⟩ := h
  cases rx
  obtain ⟨t, rfl⟩ := ry
  obtain ⟨its, r, pl, hz⟩ := I.list hq
  obtain ⟨j, h1, h2, h3, h4, h5⟩ := atI_get he
  obtain ⟨w, ew, rw'⟩ := r.get h2
  have hl := r.length
  have hn := line63
  have fin : EP X pins σ Q w s := ⟨z, H, I, rw', q⟩
  by_cases h0 : 0 ≤ i
  · have hj : i.toNat = j := by
      rw [seqIndex_of h0 h5] at h1
      exact Option.some.inj h1
    exact item_listR pl.isList h0 (by omega) (by rw [hj]; simpa using ew) fin hs
  · have hj : (i + (its.toArray.size : Int)).toNat = j := by
      rw [seqIndex_neg (by omega) h4] at h1
      rw [List.size_toArray, ← hl]
      exact Option.some.inj h1
    exact subscriptTail_builtinR (x := w) pl.isList.typeIs slot_list_getitem.lookup
      (wpAny_getItem_list_neg (Q := fun r s' => r = w ∧ EP X pins σ Q r s') pl.isList (by omega) (by rw [List.size_toArray] <;> omega) (by omega) (by rw [hj]; simpa using ew) ⟨rfl, fin⟩) hs
theorem ix_tup : IxR X (rIxT X.K) := by
  intro value slice pins s σ H x y v u Q I rx ry h hs
  obtain ⟨p, xs, i, z, rfl, rfl, hq, he, q⟩ := h
  cases rx
  obtain ⟨t, rfl⟩ := ry
  obtain ⟨its, r, pl, hz⟩ := I.tuple hq
  obtain ⟨j, h1, h2, h3, h4, h5⟩ := atI_get he
  obtain ⟨w, ew, rw'⟩ := r.get h2
  have hl := r.length
  have hn := line63
  have fin : EP X pins σ Q w s := ⟨z, H, I, rw', q⟩
  exact subscriptTail_builtinR (x := w) pl.typeIs slot_tuple_getitem.lookup
    (getItem_tuple (j := j) (Q := fun r s' => r = w ∧ EP X pins σ Q r s') pl (by omega) (by omega) (by rw [List.size_toArray, ← hl]; exact h1) (by simpa using ew) ⟨rfl, fin⟩) hs
theorem ix_str : IxR X rIxS := by
  intro value slice pins s σ H x y v u Q I rx ry h hs
  obtain ⟨z, i, c, rfl, rfl, hz, he, q⟩ := h
  obtain ⟨t, rfl⟩ := rx
  obtain ⟨t', rfl⟩ := ry
  obtain ⟨j, h1, h2, h3, h4, h5⟩ := atI_get he
  have hl : z.cps.toList.length = z.length := by simp [Str.length]
  rw [hl] at h1 h4 h5
  have hn := line63
  exact tail_any (typeIs_str s z t) slot_str_getitem.lookup (getItem_str (c := c) (by
    have e1 : decide (i < -(2 ^ 63 : Int)) = false := decide_eq_false (by omega)
    have e2 : decide (i ≥ 2 ^ 63) = false := decide_eq_false (by omega)
    rw [e1, e2, Bool.or_false]) (by rw [h1]; simpa using h2) ⟨.str ⟨#[c]⟩, H, I.tok _, ⟨_, rfl⟩, q⟩) hs
/-! ### xs[i] = v, any sign -/
/-! ### slices -/
theorem slice_bounds (lo hi : Option Int) (n : Nat) : (sliceBounds lo hi none n).1 = ((HT.sIx n 0 lo : Nat) : Int) ∧ (sliceBounds lo hi none n).2.1 = ((HT.sIx n n hi : Nat) : Int) ∧ (sliceBounds lo hi none n).2.2 = 1 := by
  refine ⟨?_, ?_, rfl⟩
  · cases lo with
    | none => simp [sliceBounds, HT.sIx]
    | some i =>
      simp only [sliceBounds, HT.sIx, Option.getD_none, show (1 : Int) > 0 by decide, if_true]
      by_cases h : i < 0
      · simp only [h, if_true] <;> omega
      · simp only [h, if_false] <;> omega
  · cases hi with
    | none => simp [sliceBounds, HT.sIx]
    | some i =>
      simp only [sliceBounds, HT.sIx, Option.getD_none, show (1 : Int) > 0 by decide, if_true]
      by_cases h : i < 0
      · simp only [h, if_true] <;> omega
      · simp only [h, if_false] <;> omega
/-! ### in, not in: flat items -/
/-! ### len, list(x), tuple(x) of any list or tuple that is read -/
theorem call_len_seq : CallR X (.builtin "len") (fun xs H Q => ∃ p ys, xs = [.ref p] ∧ (SqL X.K H p ys ∨ SqT X.K H p ys) ∧ Q (.int ys.length) H) := by
  intro pins s σ H xs us Q I r h
  obtain ⟨p, ys, rfl, hq, q⟩ := h
  obtain ⟨u, rfl, rx⟩ := vals1 r
  cases rx
  have hn := line63
  rcases hq with hq | hq
  · obtain ⟨its, r', pl, hz⟩ := I.list hq
    have hlen := r'.length
    exact Calls.call_len_list pl.isList (by simp only [List.size_toArray] <;> omega) ⟨.int ys.length, H, I.tok _, ⟨s.toks + 1, by rw [List.size_toArray, hlen]⟩, q⟩
  · obtain ⟨its, r', pl, hz⟩ := I.tuple hq
    have hlen := r'.length
    exact len_tuple pl (by simp only [List.size_toArray] <;> omega) ⟨.int ys.length, H, I.tok _, ⟨s.toks + 1, by rw [List.size_toArray, hlen]⟩, q⟩
theorem call_len_str : CallR X (.builtin "len") (fun xs H Q => ∃ z, xs = [.str z] ∧ z.length ≤ sizeLine ∧ Q (.int z.length) H) := by
  intro pins s σ H xs us Q I r h
  obtain ⟨z, rfl, hz, q⟩ := h
  obtain ⟨u, rfl, t, rfl⟩ := vals1 r
  have hn := line63
  exact len_str (by omega) ⟨.int z.length, H, I.tok _, ⟨_, rfl⟩, q⟩
theorem call_list_of : CallR X (.type "list") (fun xs H Q => ∃ p ys, xs = [.ref p] ∧ (SqL X.K H p ys ∨ SqT X.K H p ys) ∧ ∀ l, H l = none → Q (.ref l) (upd H l (.lst ys))) := by
  intro pins s σ H xs us Q I r h
  obtain ⟨p, ys, rfl, hq, q⟩ := h
  obtain ⟨u, rfl, rx⟩ := vals1 r
  cases rx
  have fin : ∀ (its : List Value), Vals ys its → ys.length ≤ sizeLine → ∀ (h' : Heap) (c' : Nat), (∀ b o', s.heap.get? b = some o' → h'.get? b = some o') →
      h'.get? s.heap.objs.size = some { cls := .type "list", dict := none, data := .seq its.toArray c', slots := #[] } → EP X pins σ Q (.ref s.heap.objs.size) { s with heap := h' } := fun its r' hz h' c' kp e =>
    ⟨.ref s.heap.objs.size, _, I.laid (t' := s.toks) kp (Nat.le_refl _) (show ObjOk X.prog X.w _ h' _ (.lst ys) from ⟨hz, its, c', r', e⟩), rfl, q _ (I.hok.fresh (Nat.le_refl _))⟩
  rcases hq with hq | hq
  · obtain ⟨its, r', pl, hz⟩ := I.list hq
    have hlen := r'.length
    obtain ⟨o, ho, hc, n, hd⟩ := pl.isList
    exact call_list_seq p (.inl rfl) ho hc hd (fun h' c' kp e => fin its r' hz h' c' kp e) (by simp only [List.size_toArray] <;> omega)
  · obtain ⟨its, r', pl, hz⟩ := I.tuple hq
    have hlen := r'.length
    obtain ⟨o, ho, hc, n, hd⟩ := pl
    exact call_list_seq p (.inr rfl) ho hc hd (fun h' c' kp e => fin its r' hz h' c' kp e) (by simp only [List.size_toArray] <;> omega)
/-! ### the call of a builtin's method: o.m(..) -/
def tyV (K : PySem.W.Frag) (T : String) (x : V) (H : Hp) : Prop := match x with
  | .str _ => T = "str"
  | .int _ => T = "int"
  | .ref p => (T = "list" ∧ ∃ xs, SqL K H p xs) ∨ (T = "tuple" ∧ ∃ o, K.lookup p = some o ∧ o.cls = .type "tuple" ∧ o.dict = none) ∨
      (T = "dict" ∧ ((∃ kvs, H p = some (.dK kvs)) ∨ ∃ kvs, H p = some (.dT kvs))) ∨ (T = "set" ∧ ∃ S n, H p = some (.set S n))
  | _ => False
theorem tyV_is {pins : List (Addr × Obj)} {σ : St} {H : Hp} {s : Shared} {T : String} {x : V} {v : Value} (I : Inv X pins σ H s) (r : RelV x v) (ty : tyV X.K T x H) :
    s.TypeIs v T ∧ ∀ a, v = .ref a → ∃ ob, s.heap.get? a = some ob ∧ ob.dict = none := by
  cases x with
  | str z =>
    obtain ⟨t, rfl⟩ := r
    cases (show T = "str" from ty)
    exact ⟨typeIs_str s z t, fun _ e => nomatch e⟩
  | int i =>
    obtain ⟨t, rfl⟩ := r
    cases (show T = "int" from ty)
    exact ⟨typeIs_int s i t, fun _ e => nomatch e⟩
  | ref p =>
    cases r
    rcases ty with ⟨rfl, xs, hq⟩ | ⟨rfl, o, hk, hc, hd⟩ | ⟨rfl, hk⟩ | ⟨rfl, S, n, hk⟩
    · obtain ⟨its, _, pl, _⟩ := I.list hq
      refine ⟨pl.isList.typeIs, fun a e => ?_⟩
      cases e
      obtain ⟨o, n, e, c, hd, _⟩ := pl
      exact ⟨o, e, hd⟩
    · refine ⟨⟨o, I.kIn p o hk, hc⟩, fun a e => ?_⟩
      cases e
      exact ⟨o, I.kIn _ o hk, hd⟩
    · have z : ∃ o, s.heap.get? p = some o ∧ o.ExactDict := by
        rcases hk with ⟨kvs, hk⟩ | ⟨kvs, hk⟩
        · obtain ⟨_, _, _, _, o, _, _, e, ex, _⟩ := I.hok p _ hk
          exact ⟨o, e, ex⟩
        · obtain ⟨_, _, _, _, o, _, _, e, ex, _⟩ := I.hok p _ hk
          exact ⟨o, e, ex⟩
      obtain ⟨o, e, ex⟩ := z
      refine ⟨⟨o, e, ex.1⟩, fun a e2 => ?_⟩
      cases e2
      exact ⟨o, e, ex.2.1⟩
    · obtain ⟨o, _, _, _, e, ex, _⟩ := I.hok p _ hk
      refine ⟨⟨o, e, ex.1⟩, fun a e2 => ?_⟩
      cases e2
      exact ⟨o, e, ex.2.1⟩
  | _ => exact False.elim ty
def tBM (K : PySem.W.Frag) (T : String) (r : V → List V → Hp → VK → Prop) (to : TE) (t : TA) : TE := fun σ H Q => to σ H fun x H1 => tyV K T x H1 ∧ t σ H1 fun xs H2 => r x xs H2 Q
variable {o e : Expr} {es : List Expr} {to : TE} {t : TA} {name : Str} {apos cpos : Pos} {T id : String} {r : V → List V → Hp → VK → Prop}
theorem pe_bm (pa : PlainAttrs T) (slot : Slot T name id) (hty : typeOf (.builtin id) = pure (.type "method_descriptor")) (hm : MtR X id r) (ho : PE X o to) (ha : PA X (e :: es) t)
    (hbase : attributeBase o name X.env (eval o X.env) = eval o X.env := by rfl)
    (hfew : ((backTo cpos (starEach (e :: es) X.env)).all (fun x => !x.1) && (backToKw cpos (keywordEach [] X.env)).all (fun x => x.1.isSome)
      && decide ((e :: es).length + ([] : List Keyword).length + (if ([] : List Keyword).isEmpty then 0 else 1) < 30)) = true := by rfl)
    (hline : (apos.endLine == cpos.line) = true := by rfl) (hs : starEach (e :: es) X.env = (false, eval e X.env) :: starEach es X.env := by rfl) (hplain : (backTo cpos (starEach es X.env)).any (·.1) = false := by rfl) :
    PE X (.Call (.Attribute o name apos) (e :: es) [] cpos) (tBM X.K T r to t) := by
  intro pins s σ H Q I h
  refine wpAny_Call_method_late hbase hfew hline rfl (thn (ho pins s σ H _ I h) fun v s1 ⟨x, H1, I1, r1, ty, q1⟩ => ?_)
  obtain ⟨h1, h2⟩ := tyV_is I1 r1 ty
  refine ⟨T, id, pa, slot, hty, h1, h2, ?_⟩
  have hA := ha cpos pins s1 σ H1 _ I1 q1
  rw [hs] at hA ⊢
  refine Calls.callWith_builtin (by show (false || (backTo cpos (starEach es X.env)).any (·.1)) = false; rw [hplain] <;> rfl) (Calls.evalArgs_plain ?_)
  exact thn hA fun us s2 ⟨vs, H2, I2, r2, q2⟩ => hm pins s2 σ H2 x vs v us Q I2 r1 r2 q2
/- xs.append(e), list.index on a module's tuple .. are MtR facts of 06m -/
end
end L2

namespace L2
open PySem PySem.Spec PyProof.Rows

def MtM (X : Cx) (id : String) (r : V → List V → Hp → VK → Prop) : Prop :=
  ∀ (pins : List (Addr × Obj)) (s : Shared) (σ : St) (H : Hp) (x : V) (xs : List V) (v : Value) (us : List Value) (Q : VK), Inv X pins σ H s → RelV x v → Vals xs us → r x xs H Q →
    wpAny (model X.prog X.w) X.A (call (.builtin id) (v :: us)) (EP X pins σ Q) X.xe s

/-! ### lists of values -/
theorem Vals.one : ∀ {x : V} {us : List Value}, Vals [x] us → ∃ u, us = [u] ∧ RelV x u
  | _, _, .cons r .nil => ⟨_, rfl, r⟩
section
variable {X : Cx} {pins : List (Addr × Obj)} {σ : St} {H : Hp} {s : Shared} {l b : Addr} {xs ys zs : List V}

/-! ### the two steps: a tracked list is rewritten, a new list is laid -/
theorem Inv.lset {its its' : List Value} {n : Nat} {f : Array Value → Array Value} {t' : Nat} (I : Inv X pins σ H s) (hH : H l = some (.lst xs))
    (e : s.heap.get? l = some { cls := .type "list", data := .seq its.toArray n }) (hf : f its.toArray = its'.toArray) (hv : Vals ys its') (hz : ys.length ≤ sizeLine) :
    Inv X pins σ (upd H l (.lst ys)) { s with heap := s.heap.update l (Obj.mapSeq f), toks := t' } := by
  have q := PySem.IsL.update e f
  rw [hf] at q
  refine I.write (x := l) (e := l) (by rw [hH]; exact trivial) (.inl rfl) (fun b' u hb hu => (Heap.get?_update_other s.heap (Obj.mapSeq f) (Ne.symm hb)).trans hu) ⟨_, q⟩ ?_
  exact ⟨hz, its', _, hv, q⟩
theorem Inv.lnew {its : List Value} {t' : Nat} (I : Inv X pins σ H s) (hv : Vals ys its) (hz : ys.length ≤ sizeLine) :
    Inv X pins σ (upd H s.heap.objs.size (.lst ys)) { s with heap := s.heap.push { cls := .type "list", data := .seq its.toArray }, toks := t' } :=
  I.laid (fun _ _ q => Heap.get?_push_of_some _ q) (Nat.le_refl _) ⟨hz, its, 0, hv, Heap.get?_push_size _ rfl⟩
theorem Inv.fresh (I : Inv X pins σ H s) : H s.heap.objs.size = none := I.hok.fresh (Nat.le_refl _)
theorem Inv.lstM (I : Inv X pins σ H s) (hH : H l = some (.lst xs)) : xs.length ≤ sizeLine ∧ ∃ (its : List Value) (n : Nat), Vals xs its ∧ xs.length = its.length ∧ s.heap.get? l = some { cls := .type "list", data := .seq its.toArray n } := by
  obtain ⟨z, its, n, r, e⟩ := I.hok l _ hH
  exact ⟨z, its, n, r, r.length, e⟩

theorem notLongL {n : Nat} (h : n ≤ sizeLine) : Builtin.List.listTooLong n = false := by
  unfold Builtin.List.listTooLong
  exact decide_eq_false (by omega)
end

section
variable {X : Cx}

/-! ### methods -/
def rAppend : V → List V → Hp → VK → Prop := fun x vs H Q => ∃ l xs y, x = .ref l ∧ vs = [y] ∧ H l = some (.lst xs) ∧ xs.length < sizeLine ∧ Q .non (upd H l (.lst (xs ++ [y])))
theorem mt_append : MtM X "list.append" rAppend := by
  intro pins s σ H x vs v us Q I rx rv h
  obtain ⟨l, xs, y, rfl, rfl, hH, hz, q⟩ := h
  cases rx
  obtain ⟨u, rfl, ru⟩ := rv.one
  obtain ⟨z, its, n, r, hl, e⟩ := I.lstM hH
  refine call_meets F.slot_list_append ⟨_, e, rfl⟩ F.entry_list_append (F.args_list_append_2 _ _) (PySem.list_append l its.toArray n u (by rw [List.size_toArray]; omega)) ⟨e, ?_⟩
  refine ⟨.non, _, I.lset (its' := its ++ [u]) hH e (by simp) (r.append (.cons ru .nil)) ?_, rfl, q⟩
  rw [List.length_append, List.length_singleton]
  omega

def rExtend : V → List V → Hp → VK → Prop := fun x vs H Q => ∃ l b xs zs, x = .ref l ∧ vs = [.ref b] ∧ H l = some (.lst xs) ∧ H b = some (.lst zs) ∧ xs.length + zs.length ≤ sizeLine ∧ Q .non (upd H l (.lst (xs ++ zs)))
theorem mt_extend : MtM X "list.extend" rExtend := by
  intro pins s σ H x vs v us Q I rx rv h
  obtain ⟨l, b, xs, zs, rfl, rfl, hH, hB, hz, q⟩ := h
  cases rx
  obtain ⟨u, rfl, ru⟩ := rv.one
  cases ru
  obtain ⟨z, its, n, r, hl, e⟩ := I.lstM hH
  obtain ⟨z2, its2, n2, r2, hl2, e2⟩ := I.lstM hB
  have hsz : its.toArray.size + its2.toArray.size ≤ sizeLine := by rw [List.size_toArray, List.size_toArray]; omega
  have hlong : ¬ (!its.toArray.isEmpty && Builtin.List.listTooLong (its.toArray.size + its2.toArray.size)) = true := by
    rw [notLongL hsz, Bool.and_false]
    exact Bool.false_ne_true
  refine call_meets F.slot_list_extend ⟨_, e, rfl⟩ F.entry_list_extend (F.args_list_extend_2 _ _)
    (AutoSeq1.list_extend_list_list_0 l its.toArray n b its2.toArray n2 hlong (by rw [List.size_toArray]; omega) (by omega)) ⟨e, e2, ?_⟩
  refine ⟨.non, _, I.lset (its' := its ++ its2) hH e (by simp) (r.append r2) ?_, rfl, q⟩
  rw [List.length_append]
  omega

/-! ### list + list, list += list, list * int -/
def rCat : R2 := fun x y H Q => ∃ l b xs zs, x = .ref l ∧ y = .ref b ∧ H l = some (.lst xs) ∧ H b = some (.lst zs) ∧ xs.length + zs.length ≤ sizeLine ∧ ∀ p, H p = none → Q (.ref p) (upd H p (.lst (xs ++ zs)))
theorem op_cat : OpR X (binaryOp .Add) rCat := by
  intro pins s σ H x y v u Q I rx ry h
  obtain ⟨l, b, xs, zs, rfl, rfl, hH, hB, hz, q⟩ := h
  cases rx
  cases ry
  obtain ⟨z, its, n, r, hl, e⟩ := I.lstM hH
  obtain ⟨z2, its2, n2, r2, hl2, e2⟩ := I.lstM hB
  refine PySem.P.add_list e e2 ?_ (by rw [List.size_toArray, List.size_toArray]; omega)
  have ea : its.toArray ++ its2.toArray = (its ++ its2).toArray := by simp
  rw [ea]
  exact ⟨.ref _, _, I.lnew (t' := s.toks) (r.append r2) (by rw [List.length_append]; omega), rfl, q _ I.fresh⟩
/-! ### del xs[i] -/
end

/-! ### xs[a:b] = ys -/
section
variable {prog : Program} {w : World} {A : Around} {E : Value → Shared → Prop} {s : Shared}
end

section
variable {X : Cx}
end
end L2

namespace Att
open PySem PySem.W PySem.Calls PyProof.Rows

/-! ### the script -/
theorem ints_of_wellAll {P : Params} {h : Heap} : ∀ (ns : List Int) (vs : List Value), WellAll P h vs (ns.map WData.int) → IntsAre vs ns := by
  intro ns
  induction ns with
  | nil =>
    intro vs w
    rw [List.map_nil] at w
    cases w
    exact .nil
  | cons n ns ih =>
    intro vs w
    rw [List.map_cons] at w
    cases w with
    | cons a b =>
      cases a
      exact .cons _ _ (ih _ b)

theorem script_of {l : OpenLaw} {n : Nat} (hn : l.most = some n) {P : Params} {h : Heap} {args : List WData} {vals : List Value}
    (hpre : l.row.toRowW.claim.pre args = true) (hwl : WellAll P h vals args) :
    ∃ a vs ns, vals = [Value.ref a] ∧ args = [WData.list (ns.map WData.int)] ∧ h.get? a = some { cls := .type "list", data := .seq vs.toArray } ∧ IntsAre vs ns ∧ ns.length ≤ n := by
  have hsh : WShape.hasAll [] args [.list .int] = true := (pre_splitW hpre).1
  have hc : l.pre.holds [] { args := args } = true := (pre_splitW hpre).2
  obtain ⟨d, r, rfl, h1, h2⟩ := hasAllW_cons hsh
  obtain rfl := hasAllW_nil h2
  obtain ⟨xs, rfl, h3⟩ := hasW_list h1
  obtain ⟨ns, rfl⟩ := items_int h3
  have hlen : ns.length ≤ n := by
    unfold OpenLaw.pre at hc
    have h4 : (WTm.not (.lt (.lit (.int (n : Int))) (.len (.arg 0)))).holds [] { args := [.list (ns.map .int)] } = true := by
      have h4 := (holds_andW hc).1
      rw [hn] at h4
      exact h4
    have h5 := condW_of h4 (w_not (w_lt w_lit (w_len_list (w_arg rfl))))
    rw [List.length_map] at h5
    refine Nat.le_of_not_lt fun q => ?_
    have q' : (n : Int) < ((ns.length : Nat) : Int) := by omega
    first
      | (rw [decide_eq_true q'] at h5; exact absurd h5 (by decide))
      | (simp at h5; omega)
  cases hwl with
  | cons w1 w2 =>
    cases w2
    cases w1 with
    | list ho hall => exact ⟨_, _, ns, rfl, rfl, ho, ints_of_wellAll ns _ hall, hlen⟩

theorem post_true (l : OpenLaw) (args : List WData) : l.row.toRowW.claim.post args (.bool true) args = true :=
  postW_of (r := l.row.toRowW) (X := (true == true))
    (show WShape.has [] (.bool true) .bool = true by first | rfl | decide | simp [WShape.has, WShape.arms, WShape.armsAll])
    (show (WTm.eq .res (.lit (.bool true))).value [] { args := args, res := some (.bool true), after := args } = some (.bool (true == true)) from w_eq_bool (w_res rfl) w_lit) rfl

/-! ### the attachment: holds_open's last premise (the goal 'hc' behind k_head) from a wpAny of the law's body -/
theorem attach_call {l : OpenLaw} {n : Nat} {q : Program} {loose : List Str} {XP : (Str → Option Value) → Heap → Prop} {YP : World → Heap → Prop} {d : DefRec}
    (hn : l.most = some n) (hdf : d.params.defaults = [])
    (call : ∀ (w : World) (s₀ s₁ : Shared) (mg mb : Str → Option Value) (fa : Addr) (o : Obj) (pm cd doc : Value) (a : Addr) (vs : List Value) (ns : List Int),
      Ground q loose [] XP w s₀ mg mb s₁.heap → YP w s₁.heap →
      s₁.heap.get? fa = some o → o.data = .func (docDef d.name d.params d.body d.scope pm cd doc) → s₁.heap.CodeRec cd d.name → mg d.name = some (.ref fa) →
      s₁.heap.get? a = some { cls := .type "list", data := .seq vs.toArray } → IntsAre vs ns → ns.length ≤ n → s₁.gens = #[] →
      codeAny (model l.prog w) callerA (.call (.ref fa) ⟨[.ref a], []⟩) (fun r s' => r = .ok (.ret (.bool true)) ∧ OldK s₁.heap s'.heap ∧ s'.os = s₁.os ∧ AllBare s'.gens) s₁) :
    WalkO q loose XP YP l.row.toRowW d [] (fun f vs => PySem.call f vs) := by
  intro w s₀ s₁ mg mb G Y fa o pm cd doc dV kV ho hd hcd hD hmg hg args vals as hpre hlay hrd hwl hlo
  obtain rfl : dV = .none := Dflts.none hD hdf
  obtain rfl : kV = .none := Dflts.noKw hD
  obtain ⟨a, vs, ns, rfl, rfl, hobj, hints, hlen⟩ := script_of hn hpre hwl
  refine enter_call (codeAny_mono (call w s₀ s₁ mg mb fa o pm cd doc a vs ns G Y ho (fd_plain hd) hcd hmg hobj hints hlen hg) fun r s' hq => ?_)
  obtain ⟨rfl, h2, h3, h4⟩ := hq
  exact ⟨.inl ⟨.bool true, .bool true, [], rfl, fun _ => rfl, .bool true, post_true l _, fun _ => ⟨List.Pairwise.nil, fun _ hm => (nomatch hm)⟩⟩, h2, h3, h4⟩

/-! ### rules over ANY heap (no ledger) from facts about the written part K: the library's own take a ledger (News) for what they write -/
section
variable {prog : Program} {w : World} {A : Around} {E : Value → Shared → Prop} {s : Shared} {K : Frag}

/-! the whole heap as the ledger: makes every rule that writes through a ledger a rule over any heap -/
def ledger (h : Heap) (L d : Addr) : List (Addr × Obj) := (List.range h.objs.size).filterMap fun a => if a = L ∨ a = d then none else (h.get? a).map fun o => (a, o)
end
end Att

namespace L2
open PySem PySem.Spec PyProof.Rows

theorem vals_ints : ∀ {vs : List Value} {ns : List Int}, IntsAre vs ns → Vals (ns.map V.int) vs
  | _, _, .nil => .nil
  | _, _, .cons n t h => .cons ⟨t, rfl⟩ (vals_ints h)

def Only (H : Hp) : Prop := ∀ b, H b = none ∨ ∃ o xs, H b = some (.frz o (.lst xs))

theorem law_call {P : Program} {w : World} {K : PySem.W.Frag} {mg mb : Str → Option Value} {CX : CXT} {k : Nat} {fa a : Addr} {fd : FuncData} {x : Str} {sp : Sp} {s₁ : Shared} {vs : List Value} {ns : List Int}
    (KX : K.In s₁.heap) (hns : s₁.heap.Ns mainGlobals mg) (hb : s₁.heap.Ns builtinsNs mb) (hbb : ∀ x : Str, x ≠ "__name__" → mb x = bootBuiltins x) (hlim : s₁.heap.NoLimit) (hg : s₁.gens = #[])
    (ha : s₁.heap.get? a = some { cls := .type "list", data := .seq vs.toArray }) (hi : IntsAre vs ns) (hl : ns.length ≤ sizeLine) (hr : Room k callerA)
    (F : ∀ base : Heap, K.In base → base.Ns mainGlobals mg → FnOk P w K mg base CX k fa fd [x] sp) (hbind : ∀ (s : Shared) (u : Value), BindsTo s fd ⟨[u], []⟩ [(x, u)])
    (hsp : ∀ H : Hp, Only H → SqL K H a (ns.map V.int) → sp [.ref a] H (fun v _ => v = .bl true) fun _ _ _ => False)
    (hCX : ∀ H e s', CX [] H s₁ (fun _ _ _ => False) e s' → False) :
    codeAny (model P w) callerA (.call (.ref fa) ⟨[.ref a], []⟩) (fun r s' => r = .ok (.ret (.bool true)) ∧ OldK s₁.heap s'.heap ∧ s'.os = s₁.os ∧ AllBare s'.gens) s₁ := by
  have rv := vals_ints hi
  have lenV := hi.length
  -- from an abstract heap in which nothing but the script may be tracked
  have core : ∀ H : Hp, Only H → SqL K H a (ns.map V.int) → HOk P w H s₁.heap → (∀ b, H b ≠ none → b = a) → (H a ≠ none → K.lookup a = none) →
      codeAny (model P w) callerA (.call (.ref fa) ⟨[.ref a], []⟩) (fun r s' => r = .ok (.ret (.bool true)) ∧ OldK s₁.heap s'.heap ∧ s'.os = s₁.os ∧ AllBare s'.gens) s₁ := by
    intro H hO hS hok hA hK
    have base_of : ∀ {b : Addr} {o : Obj}, s₁.heap.get? b = some o → H b = none → (hidT s₁.heap H).get? b = some o := fun e n => hidT_get e n
    have noA : ∀ {b : Addr} {o : Obj} {es : Array DictEntry} {ep : Nat}, s₁.heap.get? b = some o → o.data = .dict es ep → H b = none := fun {b o es ep} e d => by
      cases q : H b with
      | none => rfl
      | some u =>
        have e' : b = a := hA b (by rw [q]; simp)
        subst e'
        rw [ha] at e; cases e
        have d' : Data.seq vs.toArray _ = Data.dict es ep := d
        cases d'
    have nsK : ∀ {b : Addr} {m : Str → Option Value}, s₁.heap.Ns b m → (hidT s₁.heap H).Ns b m := fun {b m} ⟨o, es, ep, e, d, r⟩ => ⟨o, es, ep, base_of e (noA e d), d, r⟩
    have hKb : K.In (hidT s₁.heap H) := fun b o e => base_of (KX b o e) (by
      cases q : H b with
      | none => rfl
      | some u =>
        have e' : b = a := hA b (by rw [q]; simp)
        subst e'
        rw [hK (by rw [q]; simp)] at e; cases e)
    have hM : Mod K mg (hidT s₁.heap H) := ⟨hKb, nsK hns, ⟨mb, nsK hb, hbb⟩, let ⟨mc, h1, h2⟩ := hlim; ⟨mc, nsK h1, h2⟩⟩
    have e0 : Env0 P w K mg (hidT s₁.heap H) callerA [] s₁ H := ⟨rfl, hM, fun b o e => of_hidT e, Nat.le_of_eq (hidT_size _ _), trivial, fun b hb => absurd (show b ∈ ([] : List Addr) from hb) (by simp), hok, .of_eq hg⟩
    refine codeAny_mono ((F _ hKb (nsK hns)).run callerA [] s₁ H ⟨[.ref a], []⟩ [.ref a] [.ref a] _ _ hr e0 (hbind s₁ (.ref a)) (.cons rfl .nil) (hsp H hO hS)) fun r s' h => ?_
    cases r with
    | error e => exact (hCX H e s' h).elim
    | ok fl =>
      cases fl with
      | next => exact False.elim h
      | brk => exact False.elim h
      | cont => exact False.elim h
      | ret u =>
        obtain ⟨v, H', os, bare, un, hok', r', q⟩ := h
        have q' : v = .bl true := q
        subst q'
        obtain rfl : u = Value.bool true := r'
        refine ⟨rfl, OldK.of_keep fun b o e => ?_, os, bare⟩
        cases q : H b with
        | none => exact un.keep b o e q (by intro z; exact absurd (show b ∈ ([] : List Addr) from z) (by simp)) (by simp)
        | some u =>
          rcases hO b with z | ⟨ob, xs, z⟩
          · rw [q] at z; cases z
          · have z2 := un.frzs b ob _ z
            obtain ⟨e1, _⟩ := hok b _ z
            obtain ⟨e2, _⟩ := hok' b _ z2
            rw [e] at e1; cases e1
            exact e2
  cases hk : K.lookup a with
  | some o =>
    -- the script is one of the module's own objects
    have e := KX a o hk
    rw [ha] at e
    cases e
    refine core (fun _ => none) (fun _ => .inl rfl) (.inr ⟨_, vs.toArray, _, hk, rfl, rfl, rfl, by rw [List.size_toArray, lenV]; exact hl, by simpa using rv⟩) (fun b u z => by have z' : (none : Option HO) = some u := z; cases z') (fun b z => absurd rfl z) fun z => absurd rfl z
  | none =>
    refine core (fun b => if b = a then some (.frz { cls := .type "list", data := .seq vs.toArray } (.lst (ns.map V.int))) else none) (fun b => ?_) (.inl (.inr ⟨{ cls := .type "list", data := .seq vs.toArray }, if_pos rfl⟩)) (fun b u z => ?_) (fun b z => ?_) fun _ => hk
    · by_cases hb : b = a
      · exact .inr ⟨_, _, if_pos hb⟩
      · exact .inl (if_neg hb)
    · by_cases hb : b = a
      · have z' := (if_pos hb).symm.trans z
        cases z'
        subst hb
        exact ⟨ha, by rw [List.length_map]; exact hl, vs, _, rv, ha⟩
      · have z' := (if_neg hb).symm.trans z
        cases z'
    · by_cases hb : b = a
      · exact hb
      · exact absurd (if_neg hb) z
end L2

namespace L2
open PySem PySem.Spec PyProof.Rows

abbrev KOf {K : PySem.W.Frag} {h : Heap} (_ : K.In h) : PySem.W.Frag := K

theorem walk_of {l : PySem.W.OpenLaw} {n k : Nat} {q : Program} {loose : List Str} {XP : (Str → Option Value) → Heap → Prop} {YP : World → Heap → Prop} {d : DefRec} {K : Params → PySem.W.Frag} {CX : World → CXT} {sp : World → Sp} {x : Str}
    (hn : l.most = some n) (hn2 : n ≤ sizeLine) (hdf : d.params.defaults = []) (hr : Room k callerA)
    (hY : ∀ (w : World) (h : Heap), YP w h → (K w.params).In h)
    (F : ∀ (w : World) (mg : Str → Option Value) (fa : Addr) (h : Heap), (K w.params).In h → h.Ns mainGlobals mg → mg d.name = some (.ref fa) →
      ∃ fd : FuncData, (∀ (s : Shared) (u : Value), BindsTo s fd ⟨[u], []⟩ [(x, u)]) ∧
        ∀ base : Heap, (K w.params).In base → base.Ns mainGlobals mg → FnOk l.prog w (K w.params) mg base (CX w) k fa fd [x] (sp w))
    (hsp : ∀ (w : World) (H : Hp) (a : Addr) (ns : List Int), ns.length ≤ n → Only H → SqL (K w.params) H a (ns.map V.int) → sp w [.ref a] H (fun v _ => v = .bl true) fun _ _ _ => False)
    (hCX : ∀ (w : World) (H : Hp) (s : Shared) (e : Value) (s' : Shared), CX w [] H s (fun _ _ _ => False) e s' → False) :
    PySem.W.WalkO q loose XP YP l.row.toRowW d [] (fun f vs => PySem.call f vs) := by
  refine Att.attach_call hn hdf fun w s₀ s₁ mg mb fa o pm cd doc a vs ns G Y ho hd hcd hmg hobj hints hlen hg => ?_
  have KX := hY w _ Y
  obtain ⟨fd, hb, hF⟩ := F w mg fa _ KX G.T.g hmg
  exact law_call KX G.T.g G.T.b G.T.builtins G.T.nolimit hg hobj hints (Nat.le_trans hlen hn2) hr hF hb (fun H hO hS => hsp w H a ns hlen hO hS) fun H e s' => hCX w H s₁ e s'
end L2

/- THE LAST THEOREM (shape; LID, My.* are yours):
   My.Adr: a structure of the addresses that your layer names (classes, functions); My.Txt K t: a structure (Prop) of the equations over K;
   My.txt_mk : {K} {implicit addresses ..} (e1 : nsIn K mainGlobals "law" = some (some (.ref f))) (e2 : K.lookup f = some ⟨oc, od, .func (fnOf "law" "law" params body scope dV kV doc pm an cdv ct), sl⟩) (e3 : codeIn K cdv "law" = true) .. : ∃ t, My.Txt K t

set_option maxRecDepth 100000 in
set_option maxHeartbeats 0 in
theorem PySem.Challenge.cw_LID_holds : PySem.Challenge.rw_LID.Holds := by
  w_on; o_law; k_head; (case hw => w_witness2)
  k_fill
  refine L2.walk_of (l := PySem.Challenge.rw_LID) (n := 63) (k := 40) (x := "script") (CX := fun w => ..) (sp := fun _ => My.sp_law) rfl (by decide) rfl ⟨rfl, by decide, by decide⟩ (fun w h Y => PySem.W.kIn_of Y) ?F ?S ?C
  case F =>
    intro w mg fa h KX G hmg
    have T : ∃ t, My.Txt (L2.KOf KX) t := by
      dsimp only [L2.KOf]                          -- K must stand as «<heap const> w.params» for k_is
      refine' My.txt_mk ?e1 ?e2 ?e3 ..
      (case e1 => PySem.W.k_is)                    -- in the order: a name -> its address -> its object -> its parts
      (case e2 => PySem.W.k_is)
      ..
    obtain ⟨t, T⟩ := T
    have e0 := hmg.symm.trans (PySem.W.mg_of KX G T.law)
    cases e0                                       -- fa is the law's own address
    exact ⟨_, fun s u => .of_eq rfl, fun base kb nb => My.law_fn T kb nb⟩     -- if «.of_eq rfl» comes too early: refine' ⟨_, ?b, fun base kb nb => My.law_fn T kb nb⟩; exact fun s u => .of_eq rfl
  case S => exact fun w H a ns hl hO hS => ..
  case C => exact ..
(the tactic k_is has no namespace: write k_is) -/

/-! SHORT WORDS over the layer: a def of the text, its body, what a loop and a test want. -/
namespace L2
open PySem PySem.Spec PyProof.Rows

/-! ### the text by places -/
def defArgs (s : Stmt) : Arguments := match s with
  | .FunctionDef _ a _ _ _ _ _ _ _ _ => a
  | _ => { posonlyargs := [], args := [], vararg := none, kwonlyargs := [], kw_defaults := [], kwarg := none, defaults := [] }
def defBody (s : Stmt) : List Stmt := match s with
  | .FunctionDef _ _ b _ _ _ _ _ _ _ => b
  | _ => []
def defScope (s : Stmt) : Scope := match s with
  | .FunctionDef _ _ _ _ _ _ sc _ _ _ => sc
  | _ => { kind := .function, names := [], isGenerator := false, isCoroutine := false }

/-! ### no exception leaves a def -/
abbrev CX0 : CXT := fun _ _ _ _ _ _ => False
abbrev E0 : XK := fun _ _ _ => False
theorem pass0 {X : Cx} : Passes CX0 X E0 := fun _ _ _ _ _ _ _ h => h.elim

/-! ### a def (or method) of the text as it stands behind the top -/
structure Fun (K : PySem.W.Frag) (x qual : Str) (st : Stmt) (f : Addr) (fd : FuncData) : Prop where
  ex : ∃ (oc : Value) (od : Option Addr) (kV doc pm : Value) (an : Option Addr) (cdv ct : Value) (osl : Array (Option Value)),
    fd = PySem.W.fnOf x qual (defArgs st) (defBody st) (defScope st) .none kV doc pm an cdv ct ∧ K.lookup f = some ⟨oc, od, .func fd, osl⟩ ∧ PySem.W.codeIn K cdv qual = true
  kp : PySem.W.keepIn K (.ref f) = true
section
variable {P : Program} {w : World} {K : PySem.W.Frag} {mg : Str → Option Value} {base : Heap}
theorem Fun.ok {x qual : Str} {st : Stmt} {f : Addr} {fd : FuncData} {N ps : List Str} {k : Nat} {sp : Sp} (F : Fun K x qual st f fd) (S : FnScope N ps (defScope st)) (len : ∀ vs H Q E, sp vs H Q E → vs.length = ps.length)
    (hbody : ∀ (cdv : Value) (A : Around) (outer : List Env) (s : Shared) (H : Hp) (vs : List V) (Q : VK) (E : XK), Room k (A.deeper (envOfC qual (defScope st) s.heap.objs.size f cdv)) → sp vs H Q E →
      ∃ t, PSs (cxOf CX0 P w K mg base N qual (defScope st) f cdv A outer s H E).nox (defBody st) t ∧ t { nx := fun _ H' => Q .non H', rt := Q } (start N vs) H) : FnOk P w K mg base CX0 (k + 1) f fd ps sp := by
  obtain ⟨oc, od, kV, doc, pm, an, cdv, ct, osl, rfl, lk, hcd⟩ := F.ex
  refine fn_of lk hcd S len fun A outer s H vs Q E hr hsp => ?_
  obtain ⟨t, h, q⟩ := hbody cdv A outer s H vs Q E hr hsp
  exact ⟨t, h.nox, q⟩
theorem Fun.binds {x qual : Str} {st : Stmt} {f : Addr} {fd : FuncData} {ps : List Str} (F : Fun K x qual st f fd)
    (h : ∀ (kV doc pm : Value) (an : Option Addr) (cdv ct : Value) (us : List Value), us.length = ps.length → bindArgs (PySem.W.fnOf x qual (defArgs st) (defBody st) (defScope st) .none kV doc pm an cdv ct) ⟨us, []⟩ = pure (ps.zip us)) : Binds K fd ps [] := by
  obtain ⟨oc, od, kV, doc, pm, an, cdv, ct, osl, rfl, lk, hcd⟩ := F.ex
  exact .all (h kV doc pm an cdv ct)
theorem fun_mk {x qual : Str} {st : Stmt} {f : Addr} {oc : Value} {od an : Option Addr} {osl : Array (Option Value)} {kV doc pm cdv ct : Value} (l : K.lookup f = some ⟨oc, od, .func (PySem.W.fnOf x qual (defArgs st) (defBody st) (defScope st) .none kV doc pm an cdv ct), osl⟩)
    (c : PySem.W.codeIn K cdv qual = true) (k : PySem.W.keepIn K (.ref f) = true) : Fun K x qual st f (PySem.W.fnOf x qual (defArgs st) (defBody st) (defScope st) .none kV doc pm an cdv ct) := ⟨⟨oc, od, kV, doc, pm, an, cdv, ct, osl, rfl, l, c⟩, k⟩
end
theorem hu_of {A : Around} {k : Nat} (hr : Room k A) : A.units + 1 < cLine := Nat.lt_of_le_of_lt (Nat.add_le_add_left (by decide : 1 ≤ 64) _) hr.units
/-! ### expressions in short: the name that stands in the i-th slot -/
section
variable {X : Cx}
theorem pv (i : Nat) {x : Str} {pos : Pos} (hN : X.N[i]? = some x := by rfl) (hv : Vis X.env.scope x := by first | exact Or.inl rfl | exact Or.inr (Or.inl rfl) | exact Or.inr (Or.inr rfl)) (hd : (x == ("__debug__" : Str)) = false := by decide)
    (hcd : (x == ("__classdict__" : Str)) = false := by decide) : PE X (.Name x pos) (tVar i) := pe_var hN hv hd hcd
end

/-! ### tests -/
theorem iteF {A B : Prop} (h : B) : if false = true then A else B := by
  rw [if_neg Bool.false_ne_true]
  exact h
theorem iteT {A B : Prop} (h : A) : if true = true then A else B := by
  rw [if_pos rfl]
  exact h
/-! ### heaps -/
def Same (H H' : Hp) : Prop := ∀ b o, H b = some o → H' b = some o
theorem Same.refl (H : Hp) : Same H H := fun _ _ h => h
theorem Same.trans {H H1 H2 : Hp} (a : Same H H1) (b : Same H1 H2) : Same H H2 := fun c o h => b c o (a c o h)
theorem Same.free {H H' : Hp} (e : Same H H') {l : Addr} (h : H' l = Option.none) : H l = Option.none := by
  cases q : H l with
  | none => rfl
  | some o =>
    rw [e l o q] at h
    cases h
theorem Same.seq {K : PySem.W.Frag} {H H' : Hp} {a : Addr} {xs : List V} (e : Same H H') (h : SqL K H a xs) : SqL K H' a xs := by
  rcases h with (h | ⟨o, h⟩) | h
  · exact .inl (.inl (e _ _ h))
  · exact .inl (.inr ⟨o, e _ _ h⟩)
  · exact .inr h

end L2

namespace L2
open PySem PySem.Spec PyProof.Rows

/-! ### lists of pairs as tables -/
section
variable {κ : Type} [DecidableEq κ]
def valV (kvs : List (κ × V)) (k : κ) : Option V := (kvs.find? fun kv => decide (kv.1 = k)).map (·.2)
def putK (kvs : List (κ × V)) (k : κ) (v : V) : List (κ × V) :=
  if (kvs.any fun kv => decide (kv.1 = k)) = true then kvs.map (fun kv => if kv.1 = k then (kv.1, v) else kv) else kvs ++ [(k, v)]
theorem valV_nil {k : κ} : valV ([] : List (κ × V)) k = none := rfl
theorem valV_pos {p : κ × V} {r : List (κ × V)} {k : κ} (e : p.1 = k) : valV (p :: r) k = some p.2 := by simp [valV, List.find?_cons, e]
theorem valV_neg {p : κ × V} {r : List (κ × V)} {k : κ} (e : ¬ p.1 = k) : valV (p :: r) k = valV r k := by simp [valV, List.find?_cons, e]
theorem valV_any (k : κ) : ∀ kvs : List (κ × V), (kvs.any fun kv => decide (kv.1 = k)) = (valV kvs k).isSome
  | [] => rfl
  | p :: r => by
    rw [List.any_cons]
    by_cases e : p.1 = k
    · simp only [valV_pos e, decide_eq_true e, Bool.true_or, Option.isSome_some]
    · rw [valV_neg e, decide_eq_false e, Bool.false_or]; exact valV_any k r
theorem valV_map (k j : κ) (y : V) : ∀ kvs : List (κ × V), valV (kvs.map fun kv => if kv.1 = k then (kv.1, y) else kv) j = (valV kvs j).map fun x => if j = k then y else x
  | [] => rfl
  | p :: r => by
    have ih := valV_map k j y r
    rw [List.map_cons]
    by_cases h : p.1 = k
    · rw [if_pos h]
      by_cases e : p.1 = j
      · rw [valV_pos (p := (p.1, y)) e, valV_pos e, Option.map_some, if_pos (e.symm.trans h)]
      · rw [valV_neg (p := (p.1, y)) e, valV_neg e, ih]
    · rw [if_neg h]
      by_cases e : p.1 = j
      · rw [valV_pos (p := p) e, valV_pos e, Option.map_some, if_neg (fun z => h (e.trans z))]
      · rw [valV_neg (p := p) e, valV_neg e, ih]
theorem valV_snoc (k j : κ) (y : V) : ∀ kvs : List (κ × V), valV kvs k = none → valV (kvs ++ [(k, y)]) j = if j = k then some y else valV kvs j
  | [], _ => by
    by_cases e : k = j
    · rw [if_pos e.symm]; exact valV_pos (p := (k, y)) e
    · rw [if_neg (fun z => e z.symm)]; exact valV_neg (p := (k, y)) e
  | p :: r, hn => by
    rw [List.cons_append]
    have hk : ¬ p.1 = k := fun z => by rw [valV_pos z] at hn; cases hn
    rw [valV_neg hk] at hn
    have ih := valV_snoc k j y r hn
    by_cases e : p.1 = j
    · rw [valV_pos e, valV_pos e, if_neg (fun z => hk (e.trans z))]
    · rw [valV_neg e, valV_neg e, ih]
theorem valV_put (kvs : List (κ × V)) (k j : κ) (y : V) : valV (putK kvs k y) j = if j = k then some y else valV kvs j := by
  unfold putK
  by_cases a : (kvs.any fun kv => decide (kv.1 = k)) = true
  · rw [if_pos a, valV_map]
    rw [valV_any] at a
    by_cases e : j = k
    · obtain ⟨x, hx⟩ := Option.isSome_iff_exists.mp a
      rw [if_pos e, e, hx, Option.map_some, if_pos rfl]
    · rw [if_neg e]
      cases valV kvs j with
      | none => rfl
      | some x => rw [Option.map_some, if_neg e]
  · rw [if_neg a]
    refine valV_snoc k j y kvs ?_
    rw [valV_any] at a
    cases q : valV kvs k with
    | none => rfl
    | some x => rw [q] at a; exact (a rfl).elim
theorem length_putK (kvs : List (κ × V)) (k : κ) (v : V) : (putK kvs k v).length ≤ kvs.length + 1 := by
  unfold putK
  split
  · rw [List.length_map]; omega
  · rw [List.length_append, List.length_cons, List.length_nil]; omega
theorem RelO.isSome_eq {o : Option V} {u : Option Value} (r : RelO o u) : o.isSome = u.isSome := by
  cases o with
  | none => cases u with
    | none => rfl
    | some _ => exact (show False from r).elim
  | some _ => cases u with
    | none => exact (show False from r).elim
    | some _ => rfl
theorem RelO.getD {o : Option V} {u : Option Value} {d : V} {d' : Value} (r : RelO o u) (rd : RelV d d') : RelV (o.getD d) (u.getD d') := by
  cases o with
  | none => cases u with
    | none => exact rd
    | some _ => exact (show False from r).elim
  | some _ => cases u with
    | none => exact (show False from r).elim
    | some _ => exact r

theorem KV.val {kvs : List (κ × V)} {vs : List (κ × Value)} (r : KV kvs vs) (k : κ) : RelO (valV kvs k) (valueAt vs k) := by
  unfold KV at r
  induction r with
  | nil => exact True.intro
  | @cons p q ps qs h t ih =>
    obtain ⟨h1, h2⟩ := h
    by_cases e : p.1 = k
    · have e' : q.1 = k := h1.symm.trans e
      have b : valueAt (q :: qs) k = some q.2 := by simp [valueAt, List.find?_cons, e']
      rw [valV_pos e, b]; exact h2
    · have e' : ¬ q.1 = k := fun z => e (h1.trans z)
      have b : valueAt (q :: qs) k = valueAt qs k := by simp [valueAt, List.find?_cons, e']
      rw [valV_neg e, b]; exact ih
theorem KV.any {kvs : List (κ × V)} {vs : List (κ × Value)} (r : KV kvs vs) (k : κ) : (kvs.any fun kv => decide (kv.1 = k)) = vs.any fun kv => decide (kv.1 = k) := by
  unfold KV at r
  induction r with
  | nil => rfl
  | cons h t ih => rw [List.any_cons, List.any_cons, ih, h.1]
theorem KV.repl {kvs : List (κ × V)} {vs : List (κ × Value)} (r : KV kvs vs) (k : κ) {y : V} {u : Value} (ry : RelV y u) :
    KV (kvs.map fun kv => if kv.1 = k then (kv.1, y) else kv) (vs.map fun kv => if kv.1 = k then (kv.1, u) else kv) := by
  unfold KV at r ⊢
  induction r with
  | nil => exact .nil
  | @cons p q ps qs h t ih =>
    rw [List.map_cons, List.map_cons]
    refine .cons ?_ ih
    obtain ⟨h1, h2⟩ := h
    by_cases e : p.1 = k
    · rw [if_pos e, if_pos (h1.symm.trans e)]; exact ⟨h1, ry⟩
    · rw [if_neg e, if_neg (fun z => e (h1.trans z))]; exact ⟨h1, h2⟩
theorem KV.put {kvs : List (κ × V)} {vs : List (κ × Value)} (r : KV kvs vs) (k : κ) {y : V} {u : Value} (ry : RelV y u) : KV (putK kvs k y) (stored vs k u) := by
  unfold putK stored
  rw [r.any k]
  by_cases e : (vs.any fun kv => decide (kv.1 = k)) = true
  · rw [if_pos e, if_pos e]; exact r.repl k ry
  · rw [if_neg e, if_neg e]; exact Paired.snoc r ⟨rfl, ry⟩
theorem KV.length {kvs : List (κ × V)} {vs : List (κ × Value)} (r : KV kvs vs) : kvs.length = vs.length := Paired.length r
end


/-! ### a tracked dict, its keys ints and texts or tuples of these -/
theorem kV_is {P : Program} {w : World} {k : Key} {u : Value} (r : RelV (kV k) u) : (mixKind P w).is k u = true := by
  cases k with
  | inl i => obtain ⟨t, e⟩ := (show ∃ t, u = Value.int i t from r); subst e; exact mixKind_int P w i t
  | inr x => obtain ⟨t, e⟩ := (show ∃ t, u = Value.str x t from r); subst e; exact mixKind_str P w x t
theorem items_are {P : Program} {w : World} : ∀ {ks : List Key} {us : List Value}, Vals (ks.map kV) us → ItemsAre (mixKind P w) ks us
  | [], _, r => by rw [List.map_nil] at r; cases r; exact .nil
  | k :: ks, _, r => by
    rw [List.map_cons] at r
    cases r with
    | cons h t => exact .cons (kV_is h) (items_are t)

abbrev KT (H : Hp) : List (List Key × V) → List (List Key × Addr × Value) → Prop := Paired fun p q => p.1 = q.1 ∧ H q.2.1 = some (.tup (p.1.map kV)) ∧ RelV p.2 q.2.2
theorem KT.val {H : Hp} {kvs : List (List Key × V)} {xs : List (List Key × Addr × Value)} (r : KT H kvs xs) (k : List Key) : RelO (valV kvs k) ((atKey xs k).map (·.2)) := by
  induction r with
  | nil => exact True.intro
  | @cons p q ps qs h t ih =>
    obtain ⟨h1, _, h2⟩ := h
    by_cases e : p.1 = k
    · have e' : q.1 = k := h1.symm.trans e
      have b : atKey (q :: qs) k = some q.2 := by simp [atKey, List.find?_cons, e']
      rw [valV_pos e, b]; exact h2
    · have e' : ¬ q.1 = k := fun z => e (h1.trans z)
      have b : atKey (q :: qs) k = atKey qs k := by simp [atKey, List.find?_cons, e']
      rw [valV_neg e, b]; exact ih
theorem KT.repl {H : Hp} {kvs : List (List Key × V)} {xs : List (List Key × Addr × Value)} (r : KT H kvs xs) (k : List Key) {y : V} {u : Value} (ry : RelV y u) :
    KT H (kvs.map fun kv => if kv.1 = k then (kv.1, y) else kv) (xs.map (putAt k u)) := by
  induction r with
  | nil => exact .nil
  | @cons p q ps qs h t ih =>
    rw [List.map_cons, List.map_cons]
    refine .cons ?_ ih
    obtain ⟨h1, h2, h3⟩ := h
    unfold putAt
    by_cases e : p.1 = k
    · rw [if_pos e, if_pos (h1.symm.trans e)]; exact ⟨h1, h2, ry⟩
    · rw [if_neg e, if_neg (fun z => e (h1.trans z))]; exact ⟨h1, h2, h3⟩
theorem KT.put {H : Hp} {kvs : List (List Key × V)} {xs : List (List Key × Addr × Value)} (r : KT H kvs xs) (k : List Key) {b : Addr} {y : V} {u : Value} (hb : H b = some (.tup (k.map kV))) (ry : RelV y u) :
    KT H (putK kvs k y) (storedH xs k b u) := by
  have e : (kvs.any fun kv => decide (kv.1 = k)) = (atKey xs k).isSome := by
    rw [valV_any, (r.val k).isSome_eq, Option.isSome_map]
  unfold putK storedH
  rw [e]
  by_cases q : (atKey xs k).isSome = true
  · rw [if_pos q, if_pos q]; exact r.repl k ry
  · rw [if_neg q, if_neg q]; exact Paired.snoc r ⟨rfl, hb, ry⟩
theorem KT.keeps {H H' : Hp} {kvs : List (List Key × V)} {xs : List (List Key × Addr × Value)} (r : KT H kvs xs) (ht : ∀ b ys, H b = some (.tup ys) → H' b = some (.tup ys)) : KT H' kvs xs :=
  Paired.mapP r fun _ _ z => ⟨z.1, ht _ _ z.2.1, z.2.2⟩

section
variable {P : Program} {w : World} {H : Hp} {h : Heap} {a : Addr}
theorem rd_of {u : HO} (ok : HOk P w H h) (e : Rd H a u) : ObjOk P w H h a u := e.ok ok
theorem dk_rd {kvs : List (Key × V)} (ok : HOk P w H h) (e : Rd H a (.dK kvs)) : kvs.length ≤ sizeLine ∧ (a == sysModules) = false ∧ ∃ vs, KV kvs vs ∧ h.DictOf (mixKind P w) a vs :=
  show ObjOk P w H h a (.dK kvs) from rd_of ok e
theorem dk_of {kvs : List (Key × V)} (ok : HOk P w H h) (e : H a = some (.dK kvs)) : kvs.length ≤ sizeLine ∧ (a == sysModules) = false ∧ ∃ vs, KV kvs vs ∧ h.DictOf (mixKind P w) a vs := dk_rd ok (.inl e)
theorem key_of {ks : List Key} (ok : HOk P w H h) (e : H a = some (.tup (ks.map kV))) : (tupleKind (mixKind P w)).is h ks a := by
  obtain ⟨_, its, r, o, h1, h2, n, h3⟩ := (show ObjOk P w H h a (.tup (ks.map kV)) from ok a _ e)
  exact ⟨o, its.toArray, n, h1, h2, h3, by simpa using items_are r⟩
theorem dt_rd {kvs : List (List Key × V)} (ok : HOk P w H h) (e : Rd H a (.dT kvs)) : kvs.length ≤ sizeLine ∧ (a == sysModules) = false ∧
    ∃ xs, KT H kvs xs ∧ h.DictOfH (tupleKind (mixKind P w)) a xs := by
  obtain ⟨z, y, xs, r, o, es, ep, h1, h2, h3, h4, h5⟩ := (show ObjOk P w H h a (.dT kvs) from rd_of ok e)
  refine ⟨z, y, xs, r, o, es, ep, h1, h2, h3, h4, fun x hx => ?_, h5⟩
  have all : ∀ {l : List (List Key × V)} {m : List (List Key × Addr × Value)}, KT H l m → ∀ x ∈ m, (tupleKind (mixKind P w)).is h x.1 x.2.1 := by
    intro l m q
    induction q with
    | nil => intro x hx; exact nomatch hx
    | @cons p q ps qs hq t ih =>
      intro x hx
      rcases List.mem_cons.mp hx with e | hx
      · subst e
        exact key_of ok (by rw [← hq.1]; exact hq.2.1)
      · exact ih x hx
  exact all r x hx
theorem dt_of {kvs : List (List Key × V)} (ok : HOk P w H h) (e : H a = some (.dT kvs)) : kvs.length ≤ sizeLine ∧ (a == sysModules) = false ∧
    ∃ xs, KT H kvs xs ∧ h.DictOfH (tupleKind (mixKind P w)) a xs := dt_rd ok (.inl e)
end

def DGet (H : Hp) (a : Addr) (y : V) (r : Option V) : Prop :=
  (∃ kvs k, Rd H a (.dK kvs) ∧ y = kV k ∧ r = valV kvs k) ∨ ∃ kvs k b, Rd H a (.dT kvs) ∧ y = .ref b ∧ H b = some (.tup (k.map kV)) ∧ r = valV kvs k
def DPut (H : Hp) (a : Addr) (y v : V) (H' : Hp) : Prop :=
  (∃ kvs k, H a = some (.dK kvs) ∧ y = kV k ∧ kvs.length < sizeLine ∧ H' = upd H a (.dK (putK kvs k v))) ∨
  ∃ kvs k b, H a = some (.dT kvs) ∧ y = .ref b ∧ H b = some (.tup (k.map kV)) ∧ kvs.length < sizeLine ∧ H' = upd H a (.dT (putK kvs k v))
theorem DGet.k {H : Hp} {a : Addr} {kvs : List (Key × V)} {k : Key} (e : H a = some (.dK kvs)) : DGet H a (kV k) (valV kvs k) := .inl ⟨kvs, k, .inl e, rfl, rfl⟩
theorem DPut.k {H : Hp} {a : Addr} {kvs : List (Key × V)} {k : Key} {v : V} (e : H a = some (.dK kvs)) (hl : kvs.length < sizeLine) : DPut H a (kV k) v (upd H a (.dK (putK kvs k v))) := .inl ⟨kvs, k, e, rfl, hl, rfl⟩
theorem DPut.t {H : Hp} {a b : Addr} {kvs : List (List Key × V)} {k : List Key} {v : V} (e : H a = some (.dT kvs)) (eb : H b = some (.tup (k.map kV))) (hl : kvs.length < sizeLine) :
    DPut H a (.ref b) v (upd H a (.dT (putK kvs k v))) := .inr ⟨kvs, k, b, e, rfl, eb, hl, rfl⟩


section
variable {X : Cx} {pins : List (Addr × Obj)} {σ : St} {H : Hp} {s : Shared} {a : Addr} {y v : V} {u r : Value} {o : Option V} {A : Around} {E : Value → Shared → Prop}

theorem Inv.big (I : Inv X pins σ H s) : sysModules < s.heap.objs.size := by
  have h : mainGlobals < s.heap.objs.size := (I.mod.glob.keeps I.bk).lt
  exact Nat.lt_trans (by decide) h

theorem d_write {h' : Heap} {t' : Nat} {ob : HO} (I : Inv X pins σ H s) (mu : Mut (H a)) (hs : Heap.SameBut a s.heap h') (he : ∃ q, h'.get? a = some q) (new : ObjOk X.prog X.w (upd H a ob) h' a ob) :
    Inv X pins σ (upd H a ob) { s with heap := h', toks := t' } :=
  I.write (x := a) (e := a) mu (.inl rfl) (fun b q hb z => (hs.2 b hb).trans z) he new
theorem dk_new {P : Program} {w : World} {H' : Hp} {h' : Heap} {kvs : List (Key × V)} {vs : List (Key × Value)} (z : kvs.length ≤ sizeLine) (hd : (a == sysModules) = false) (rel : KV kvs vs) (dd : h'.DictOf (mixKind P w) a vs) :
    ObjOk P w H' h' a (.dK kvs) := ⟨z, hd, vs, rel, dd⟩
theorem d_setItem {H' : Hp} {Q : Unit → Shared → Prop} (hu : A.units + 1 < cLine) (I : Inv X pins σ H s) (g : DPut H a y v H') (ry : RelV y u) (rv : RelV v r) (h : ∀ s', Inv X pins σ H' s' → Q () s') :
    wpAny (model X.prog X.w) A (setItem (.ref a) u r) Q E s := by
  rcases g with ⟨kvs, k, e, ey, l, eH⟩ | ⟨kvs, k, b, e, ey, eb, l, eH⟩
  · subst ey eH
    obtain ⟨z, hd, vs, rel, dd⟩ := dk_of I.hok e
    have hz : vs.length ≤ sizeLine := by rw [← rel.length]; exact z
    have hl : (putK kvs k v).length ≤ sizeLine := by have := length_putK kvs k v; omega
    refine wpAny_setItem_pairs (hsz := hz) (kV_is ry) dd fun h' dd' hs => h _ ?_
    have he : ∃ q, h'.get? a = some q := let ⟨q, _, _, hq, _⟩ := dd'; ⟨q, hq⟩
    exact d_write I (by rw [e]; exact True.intro) hs he (dk_new hl hd (rel.put k rv) dd')
  · subst ey eH
    cases (show u = Value.ref b from ry)
    obtain ⟨z, hd, xs, rel, dd⟩ := dt_of I.hok e
    have hz : xs.length ≤ sizeLine := by rw [← Paired.length rel]; exact z
    have hl : (putK kvs k v).length ≤ sizeLine := by have := length_putK kvs k v; omega
    refine wpAny_setItem_heap (hsz := hz) (tupleKind_room_in1 hu) (key_of I.hok eb) dd fun h' dd' hs => h _ ?_
    obtain ⟨q, es, ep, hq, h2, h3, h4, _, h5⟩ := dd'
    refine d_write I (by rw [e]; exact True.intro) hs ⟨q, hq⟩ ⟨hl, hd, _, (rel.put k eb rv).keeps fun c ys ec => ?_, q, es, ep, hq, h2, h3, h4, h5⟩
    rw [upd_ne (ne_of ec e (fun z => nomatch z))]
    exact ec
end

section
variable {X : Cx} {pins : List (Addr × Obj)} {σ : St} {H : Hp} {s : Shared} {a : Addr} {kvs : List (Key × V)} {k : Key} {u : Value} {A : Around} {E : Value → Shared → Prop}
end


/-! ### readings and rules -/
def sDPut (td ty tv : TE) : TS := fun D σ H => tv σ H fun v H1 => td σ H1 fun x H2 => ty σ H2 fun y H3 => ∃ a H4, x = .ref a ∧ DPut H3 a y v H4 ∧ D.nx σ H4
section
variable {X : Cx} {o i e value : Expr} {pos pos' tpos : Pos} {td ty tv : TE}
theorem ps_dput (hu : X.A.units + 1 < cLine) (ho : PE X o td) (hi : PE X i ty) (hv : PE X value tv) (hs : swapsWith value (some (.Subscript o i pos')) pos.line X.env = pure false) :
    PS X (.Assign [.Subscript o i pos'] value pos) (sDPut td ty tv) := by
  intro pins s σ H D I h
  refine wpAny_Assign_Subscript (thn (hv pins s σ H _ I h) fun r s1 ⟨v, H1, I1, rv, q1⟩ => thn (ho pins s1 σ H1 _ I1 q1) fun u s2 ⟨x, H2, I2, rx, q2⟩ => thn (hi pins s2 σ H2 _ I2 q2) fun iv s3 ⟨y, H3, I3, ry, a, H4, ex, g, q3⟩ => ?_) hs
  subst ex
  obtain rfl : u = Value.ref a := rx
  exact d_setItem hu I3 g ry rv fun s4 I4 => ⟨σ, H4, I4, q3⟩
end


/-! ### displays -/
theorem dk_empty {P : Program} {w : World} {H : Hp} (h : Heap) (hb : sysModules < h.objs.size) : ObjOk P w H (h.push { cls := .type "dict", data := .dict #[] }) h.objs.size (.dK []) :=
  ⟨Nat.zero_le _, beq_eq_false_iff_ne.mpr (Ne.symm (Nat.ne_of_lt hb)), [], .nil, Heap.DictOf.new h⟩
theorem dt_empty {P : Program} {w : World} {H : Hp} (h : Heap) (hb : sysModules < h.objs.size) : ObjOk P w H (h.push { cls := .type "dict", data := .dict #[] }) h.objs.size (.dT []) :=
  ⟨Nat.zero_le _, beq_eq_false_iff_ne.mpr (Ne.symm (Nat.ne_of_lt hb)), [], .nil, _, #[], 0, Heap.get?_push_size _ rfl, ⟨rfl, rfl, rfl⟩, rfl, rfl, List.nodup_nil⟩
def tDNewK : TE := fun _ H Q => ∀ p, H p = none → Q (.ref p) (upd H p (.dK []))
def tDNewT : TE := fun _ H Q => ∀ p, H p = none → Q (.ref p) (upd H p (.dT []))
section
variable {X : Cx} {pos : Pos}
theorem pe_dnewK : PE X (.Dict [] [] pos) tDNewK := fun pins s σ H Q I h =>
  wpAny_Dict_empty ⟨.ref s.heap.objs.size, _, I.laid (a := s.heap.objs.size) (o := .dK []) (t' := s.toks) (fun _ _ q => Heap.get?_push_of_some _ q) (Nat.le_refl _) (dk_empty s.heap I.big), rfl, h _ (I.hok.fresh (Nat.le_refl _))⟩
theorem pe_dnewT : PE X (.Dict [] [] pos) tDNewT := fun pins s σ H Q I h =>
  wpAny_Dict_empty ⟨.ref s.heap.objs.size, _, I.laid (a := s.heap.objs.size) (o := .dT []) (t' := s.toks) (fun _ _ q => Heap.get?_push_of_some _ q) (Nat.le_refl _) (dt_empty s.heap I.big), rfl, h _ (I.hok.fresh (Nat.le_refl _))⟩
end

def tPairs : List (TE × TE) → St → Hp → (List (V × V) → Hp → Prop) → Prop
  | [], _, H, Q => Q [] H
  | (tk, tv) :: r, σ, H, Q => tk σ H fun x H1 => tv σ H1 fun y H2 => tPairs r σ H2 fun ps H3 => Q ((x, y) :: ps) H3
/-! ### methods -/
structure M1 (X : Cx) (o : Expr) (m : Str) (apos : Pos) (e : Expr) (cpos : Pos) : Prop where
  base : attributeBase o m X.env (eval o X.env) = eval o X.env
  few : ((backTo cpos (starEach [e] X.env)).all (fun x => !x.1) && (backToKw cpos (keywordEach [] X.env)).all (fun x => x.1.isSome)
    && decide (([e] : List Expr).length + ([] : List Keyword).length + (if ([] : List Keyword).isEmpty then 0 else 1) < 30)) = true
  line : (apos.endLine == cpos.line) = true
  trees : backTo cpos (starEach [e] X.env) = [(false, eval e X.env)]
structure M2 (X : Cx) (o : Expr) (m : Str) (apos : Pos) (e f : Expr) (cpos : Pos) : Prop where
  base : attributeBase o m X.env (eval o X.env) = eval o X.env
  few : ((backTo cpos (starEach [e, f] X.env)).all (fun x => !x.1) && (backToKw cpos (keywordEach [] X.env)).all (fun x => x.1.isSome)
    && decide (([e, f] : List Expr).length + ([] : List Keyword).length + (if ([] : List Keyword).isEmpty then 0 else 1) < 30)) = true
  line : (apos.endLine == cpos.line) = true
  trees : backTo cpos (starEach [e, f] X.env) = [(false, eval e X.env), (false, eval f X.env)]

section
variable {X : Cx} {pins : List (Addr × Obj)} {σ : St} {H : Hp} {s : Shared} {a : Addr} {y d : V} {u r : Value} {o : Option V} {A : Around} {E : Value → Shared → Prop}
theorem d_get2 {Q : Value → Shared → Prop} (hu : A.units + 1 < cLine) (I : Inv X pins σ H s) (g : DGet H a y o) (ry : RelV y u) (rd : RelV d r) (h : ∀ w' s', Inv X pins σ H s' → RelV (o.getD d) w' → Q w' s') :
    wpAny (model X.prog X.w) A (call (.builtin "dict.get") [.ref a, u, r]) Q E s := by
  rcases g with ⟨kvs, k, e, ey, l⟩ | ⟨kvs, k, b, e, ey, eb, l⟩
  · subst ey
    obtain ⟨z, hd, vs, rel, dd⟩ := dk_rd I.hok e
    refine call_meetsIn PySem.F.slot_dict_get dd.typeIs PySem.F.entry_dict_get (PySem.F.args_dict_get_3 _ _ _) (meets_dict_get_default (mixKind X.prog X.w) a (kV_is ry) hd r) ⟨_, dd.mapOf, h _ _ (I.tok _) ?_⟩
    rw [l]
    exact (rel.val k).getD rd
  · subst ey
    cases (show u = Value.ref b from ry)
    obtain ⟨z, hd, xs, rel, dd⟩ := dt_rd I.hok e
    refine call_meetsIn PySem.F.slot_dict_get dd.typeIs PySem.F.entry_dict_get (PySem.F.args_dict_get_3 _ _ _) (meetsH_dict_get_default (tupleKind (mixKind X.prog X.w)) a b hd r) ⟨tupleKind_room_in1 hu, k, xs, key_of I.hok eb, dd, h _ _ (I.tok _) ?_⟩
    rw [l]
    exact (rel.val k).getD rd
end

section
variable {X : Cx} {o e f : Expr} {apos cpos : Pos} {td ty tx : TE}
end

/-! ### dict(d): a copy -/
section
variable {X : Cx} {pins : List (Addr × Obj)} {σ : St} {H : Hp} {s : Shared} {a : Addr} {kvs : List (Key × V)} {A : Around} {E : Value → Shared → Prop}
end


section
variable {X : Cx} {pins : List (Addr × Obj)} {σ : St} {H : Hp} {s : Shared} {a : Addr} {y : V} {u : Value} {A : Around} {E : Value → Shared → Prop}
end
section
variable {X : Cx}
end
/-! ### a dict's pairs: keys that differ -/
section
variable {κ : Type} [DecidableEq κ]
end
end L2


/-! Own additions to the hand layer: slices of texts, unpacking a list, isinstance, calls by a bundle. -/
namespace L3
open PySem PySem.Spec PyProof.Rows L2
theorem bt_len : bootBuiltins "len" = some (.builtin "len") := by decide +kernel
theorem bt_min : bootBuiltins "min" = some (.builtin "min") := by decide +kernel
theorem bt_max : bootBuiltins "max" = some (.builtin "max") := by decide +kernel
theorem bt_isinstance : bootBuiltins "isinstance" = some (.builtin "isinstance") := by decide +kernel
theorem bt_int : bootBuiltins "int" = some (.type "int") := by decide +kernel
theorem bt_list : bootBuiltins "list" = some (.type "list") := by decide +kernel
theorem bt_tuple : bootBuiltins "tuple" = some (.type "tuple") := by decide +kernel

/-! ### texts as lists of codes -/
abbrev cl (z : Str) : List Nat := z.cps.toList
theorem cl_length (a : Str) : (cl a).length = a.length := by
  show a.cps.toList.length = a.cps.size
  rw [Array.length_toList]
theorem cl_slice (z : Str) (lo hi : Option Int) : cl (Txt.slice z lo hi) = ((cl z).drop (HT.sIx z.length 0 lo)).take (HT.sIx z.length z.length hi - HT.sIx z.length 0 lo) := by
  have e : Builtin.Str.strSliceIndices lo hi 1 z.length = sliceRange (sliceBounds lo hi none z.length).1 (sliceBounds lo hi none z.length).2.1 1 := by
    cases lo <;> cases hi <;> rfl
  obtain ⟨h1, h2, _⟩ := slice_bounds lo hi z.length
  have p : (Builtin.Str.strSliceIndices lo hi 1 z.length).filterMap (z.cps[·]?) = ((cl z).drop (HT.sIx z.length 0 lo)).take (HT.sIx z.length z.length hi - HT.sIx z.length 0 lo) := by
    rw [e, h1, h2, sliceRange_one, pick_run]
  unfold Txt.slice
  split
  · rename_i hc
    have hl : (Builtin.Str.strSliceIndices lo hi 1 z.length).length = z.length := by
      simpa using hc
    rw [e, h1, h2, sliceRange_one, List.length_map, List.length_range] at hl
    have b1 := HT.sIx_le z.length 0 (Nat.zero_le _) lo
    have b2 := HT.sIx_le z.length z.length (Nat.le_refl _) hi
    by_cases h0 : z.length = 0
    · have : cl z = [] := List.eq_nil_of_length_eq_zero (by rw [cl_length]; exact h0)
      rw [this]; simp
    · have a0 : HT.sIx z.length 0 lo = 0 := by omega
      have aN : HT.sIx z.length z.length hi = z.length := by omega
      rw [a0, aN, List.drop_zero, Nat.sub_zero, ← cl_length, List.take_length]
  · exact p

section
variable {X : Cx}
def rSlS : V → Option Int → Option Int → Hp → VK → Prop := fun x lo hi H Q => ∃ z, x = .str z ∧ z.length ≤ sizeLine ∧ Q (.str (Txt.slice z lo hi)) H
theorem part_of {v : Value} {o : Option Int} (p : IsPart v o) : ∃ l : Option (Int × Tok), v = partValue l ∧ l.map (·.1) = o := by
  cases p with
  | none => exact ⟨none, rfl, rfl⟩
  | int i t => exact ⟨some (i, t), rfl, rfl⟩
theorem sl_str : SlR X rSlS := by
  intro pins s σ H x v vl vu lo hi sl Q I rx hs pl pu h
  obtain ⟨z, rfl, hz, q⟩ := h
  obtain ⟨t, rfl⟩ := rx
  obtain ⟨l, rfl, rfl⟩ := part_of pl
  obtain ⟨u, rfl, rfl⟩ := part_of pu
  refine ⟨"str", _, PySem.F.slot_str_getitem.lookup, typeIs_str _ _ _, ?_⟩
  refine wpAny_getItem_str_slice (l := l) (u := u) (st := none) hs rfl ?_
  refine post_val_or_str ⟨Nat.le_trans (Txt.slice_le z _ _) hz, fun t' k => ?_⟩
  exact ⟨.str (Txt.slice z (l.map (·.1)) (u.map (·.1))), H, I.tok _, ⟨_, rfl⟩, q⟩

theorem pe_ty {x : Str} {T : String} {pos : Pos} (hg : Gl X x) (hm : X.mg x = none) (hv : bootBuiltins x = some (.type T)) (hn : x ≠ "__name__" := by decide) (hdb : (x == ("__debug__" : Str)) = false := by decide) :
    PE X (.Name x pos) (tC (.ty T)) := pe_bltn (v := .ty T) hg hm hv rfl hn hdb
/-! ### an own def as a caller sees it -/
def Cal (P : Program) (w : World) (K : PySem.W.Frag) (mg : Str → Option Value) (base : Heap) (x : Str) (ps : List Str) (k : Nat) (sp : Sp) : Prop :=
  ∃ f fd, FnOk P w K mg base CX0 k f fd ps sp ∧ Binds K fd ps [] ∧ PySem.W.keepIn K (.ref f) = true ∧ mg x = some (.ref f)
def tFn (sp : Sp) (t : TA) : TE := fun σ H Q => t σ H fun vs H1 => sp vs H1 Q E0
theorem pe_fn {x : Str} {ps : List Str} {k k' : Nat} {sp : Sp} {p pos : Pos} {e : Expr} {es : List Expr} {t : TA} (C : Cal X.prog X.w X.K X.mg X.base x ps k sp) (hr : Room k' X.A) (hk : k ≤ k') (hg : Gl X x)
    (ha : PA X (e :: es) t) (hdb : (x == ("__debug__" : Str)) = false := by decide) (he : starEach (e :: es) X.env = (false, eval e X.env) :: starEach es X.env := by rfl) (hpl : (backTo pos (starEach es X.env)).any (·.1) = false := by rfl) :
    PE X (.Call (.Name x p) (e :: es) [] pos) (tFn sp t) := by
  obtain ⟨f, fd, F, b, kp, hm⟩ := C
  intro pins s σ H Q I h
  refine wpAny_Call_Name_kw (ld_glob I hg hm ?_ hdb)
  refine PySem.W.callWith_K (h₀ := X.base) I.ok.mod.kin kp (thn (ha pos pins s σ H _ I h) fun us s1 ⟨vs, H1, I1, r, q⟩ => ⟨I1.kIn, ?_⟩) he hpl
  exact run_fn (dvs := []) F (hr.mono hk) b .nil pass0 I1 r (by rw [List.append_nil]; exact q)
end
/-! ### a cut: what holds behind a statement, a value that is forgotten but for a word -/
section
variable {X : Cx}
def tMid (t u : TS) : TS := fun D σ H => ∃ M : L2.St → Hp → Prop, t { D with nx := M } σ H ∧ ∀ σ' H', M σ' H' → u D σ' H'
theorem pss_mid {st : Stmt} {rest : List Stmt} {t u : TS} (h1 : PS X st t) (h2 : PSs X rest u) : PSs X (st :: rest) (tMid t u) := by
  intro pins s σ H D I h
  obtain ⟨M, ht, hu⟩ := h
  refine wpAny_execs_cons (thn (h1 pins s σ H { D with nx := M } I ht) fun f s1 q => ?_)
  cases f with
  | next =>
    obtain ⟨σ', H', I', q⟩ := q
    exact h2 pins s1 σ' H' D I' (hu σ' H' q)
  | ret v => exact q
  | brk => exact q
  | cont => exact q
def tAbs (t : TE) : TE := fun σ H Q => ∃ P : V → Hp → Prop, t σ H P ∧ ∀ v H', P v H' → Q v H'
theorem pe_abs {e : Expr} {t : TE} (h : PE X e t) : PE X e (tAbs t) := by
  intro pins s σ H Q I hw
  obtain ⟨P, ht, hq⟩ := hw
  exact thn (h pins s σ H P I ht) fun u s1 ⟨v, H1, I1, r1, q1⟩ => ⟨v, H1, I1, r1, hq v H1 q1⟩
def rPick (K : PySem.W.Frag) : R2 := fun x y H Q => ∃ p xs i, x = .ref p ∧ y = .int i ∧ SqL K H p xs ∧ 0 ≤ i ∧ i < xs.length ∧ ∃ W : V → Prop, (∀ v ∈ xs, W v) ∧ ∀ v, W v → Q v H
theorem ix_pick : IxR X (rPick X.K) := by
  intro value slice pins s σ H x y v u Q I rx ry h hs
  obtain ⟨p, xs, i, rfl, rfl, hq, h0, h1, W, hW, q⟩ := h
  obtain ⟨n, rfl⟩ := Int.eq_ofNat_of_zero_le h0
  have hn : n < xs.length := by omega
  exact ix_list value slice pins s σ H _ _ v u Q I rx ry ⟨p, xs, _, xs[n], rfl, rfl, hq, atI_nat (by rw [List.getElem?_eq_getElem hn]), q _ (hW _ (List.getElem_mem hn))⟩ hs
end
theorem pz {j : Int} (h : decide (0 < j) = true := by decide) : 0 < j := of_decide_eq_true h
theorem iteD {c A B : Prop} [Decidable c] (hc : ¬ c) (h : B) : if decide c = true then A else B := by
  rw [decide_eq_false hc]
  exact iteF h
theorem iteDT {c A B : Prop} [Decidable c] (hc : c) (h : A) : if decide c = true then A else B := by
  rw [decide_eq_true hc]
  exact iteT h
theorem iteDd {c A B : Prop} [Decidable c] (h1 : c → A) (h2 : ¬ c → B) : if decide c = true then A else B := by
  by_cases h : c
  · exact iteDT h (h1 h)
  · exact iteD h (h2 h)
theorem iteNd {c A B : Prop} [Decidable c] (h1 : ¬ c → A) (h2 : c → B) : if (!decide c) = true then A else B := by
  by_cases h : c
  · rw [decide_eq_true h]; exact iteF (h2 h)
  · rw [decide_eq_false h]; exact iteT (h1 h)
theorem same_new {H : Hp} {p : Addr} (h : H p = none) (o : HO) : Same H (upd H p o) := fun b u q => by rw [upd_ne (ne_of_none q h)]; exact q
theorem at_mem {α : Type} {xs : List α} {i : Int} (h0 : 0 ≤ i) (h1 : i < xs.length) : ∃ v, atI xs i = some v ∧ v ∈ xs := by
  obtain ⟨n, rfl⟩ := Int.eq_ofNat_of_zero_le h0
  have hn : n < xs.length := by omega
  exact ⟨xs[n], atI_nat (by rw [List.getElem?_eq_getElem hn]), List.getElem_mem hn⟩
theorem at_some {α : Type} {xs : List α} {i : Int} (h0 : 0 ≤ i) (h1 : i < xs.length) : ∃ v, atI xs i = some v ∧ xs[i.toNat]? = some v := by
  obtain ⟨n, rfl⟩ := Int.eq_ofNat_of_zero_le h0
  have hn : n < xs.length := by omega
  exact ⟨xs[n], atI_nat (by rw [List.getElem?_eq_getElem hn]), by simp [hn]⟩
theorem szl {n : Nat} (h : n ≤ 100000) : n ≤ sizeLine := Nat.le_trans h (by rw [sizeLine_eq]; decide)
end L3

/-! Deep data: what a value stands for (numbers, texts, tuples and lists within one another), and == and in over it. -/
namespace L3
open PySem PySem.Spec PyProof.Rows L2 PySem.SeqAt

inductive D where
  | non | bl (b : Bool) | int (i : Int) | str (x : Str) | tup (xs : List D) | lst (xs : List D)

mutual
def Rep (K : PySem.W.Frag) (H : Hp) : D → V → Prop
  | .non, v => v = .non
  | .bl b, v => v = .bl b
  | .int i, v => v = .int i
  | .str x, v => v = .str x
  | .tup ds, v => ∃ a xs, v = .ref a ∧ SqT K H a xs ∧ Reps K H ds xs
  | .lst ds, v => ∃ a xs, v = .ref a ∧ SqL K H a xs ∧ Reps K H ds xs
def Reps (K : PySem.W.Frag) (H : Hp) : List D → List V → Prop
  | [], vs => vs = []
  | d :: ds, vs => ∃ v r, vs = v :: r ∧ Rep K H d v ∧ Reps K H ds r
end
theorem Same.seqT {K : PySem.W.Frag} {H H' : Hp} {a : Addr} {xs : List V} (e : Same H H') (h : SqT K H a xs) : SqT K H' a xs := by
  rcases h with (h | ⟨o, h⟩) | h
  · exact .inl (.inl (e _ _ h))
  · exact .inl (.inr ⟨o, e _ _ h⟩)
  · exact .inr h
mutual
theorem Rep.mono {K : PySem.W.Frag} {H H' : Hp} (g : Same H H') : ∀ (d : D) (v : V), Rep K H d v → Rep K H' d v
  | .non, _, h => by unfold Rep at h ⊢; exact h
  | .bl _, _, h => by unfold Rep at h ⊢; exact h
  | .int _, _, h => by unfold Rep at h ⊢; exact h
  | .str _, _, h => by unfold Rep at h ⊢; exact h
  | .tup ds, _, h => by
    unfold Rep at h ⊢
    obtain ⟨a, xs, e, q, r⟩ := h
    exact ⟨a, xs, e, Same.seqT g q, Reps.mono g ds xs r⟩
  | .lst ds, _, h => by
    unfold Rep at h ⊢
    obtain ⟨a, xs, e, q, r⟩ := h
    exact ⟨a, xs, e, g.seq q, Reps.mono g ds xs r⟩
theorem Reps.mono {K : PySem.W.Frag} {H H' : Hp} (g : Same H H') : ∀ (ds : List D) (vs : List V), Reps K H ds vs → Reps K H' ds vs
  | [], _, h => by unfold Reps at h ⊢; exact h
  | d :: ds, _, h => by
    unfold Reps at h ⊢
    obtain ⟨v, r, e, q, t⟩ := h
    exact ⟨v, r, e, Rep.mono g d v q, Reps.mono g ds r t⟩
end
theorem Reps.nil {K : PySem.W.Frag} {H : Hp} : Reps K H [] [] := by unfold Reps; rfl
theorem Reps.cons {K : PySem.W.Frag} {H : Hp} {d : D} {v : V} {ds : List D} {vs : List V} (h : Rep K H d v) (t : Reps K H ds vs) : Reps K H (d :: ds) (v :: vs) := by
  unfold Reps; exact ⟨v, vs, rfl, h, t⟩
theorem Reps.inv {K : PySem.W.Frag} {H : Hp} {d : D} {ds : List D} {vs : List V} (h : Reps K H (d :: ds) vs) : ∃ v r, vs = v :: r ∧ Rep K H d v ∧ Reps K H ds r := by
  unfold Reps at h; exact h
theorem Reps.inv0 {K : PySem.W.Frag} {H : Hp} {vs : List V} (h : Reps K H [] vs) : vs = [] := by
  unfold Reps at h; exact h
theorem Reps.length {K : PySem.W.Frag} {H : Hp} : ∀ {ds : List D} {vs : List V}, Reps K H ds vs → ds.length = vs.length
  | [], _, h => by rw [h.inv0]; rfl
  | d :: ds, _, h => by
    obtain ⟨v, r, rfl, _, t⟩ := h.inv
    rw [List.length_cons, List.length_cons, Reps.length t]
/-! ### Python's == -/
mutual
def eqD : D → D → Bool
  | .non, .non => true
  | .bl a, .bl b => a == b
  | .bl a, .int b => (if a then 1 else 0) == b
  | .int a, .bl b => a == (if b then 1 else 0)
  | .int a, .int b => a == b
  | .str a, .str b => a == b
  | .tup xs, .tup ys => eqDs xs ys
  | .lst xs, .lst ys => eqDs xs ys
  | _, _ => false
def eqDs : List D → List D → Bool
  | [], [] => true
  | x :: xs, y :: ys => eqD x y && eqDs xs ys
  | _, _ => false
end
mutual
def deep : D → Nat
  | .tup xs => deeps xs + 1
  | .lst xs => deeps xs + 1
  | _ => 0
def deeps : List D → Nat
  | [] => 0
  | x :: xs => max (deep x) (deeps xs)
end
mutual
theorem eqD_refl : ∀ d : D, eqD d d = true
  | .non => by simp [eqD]
  | .bl b => by simp [eqD]
  | .int i => by simp [eqD]
  | .str x => by simp [eqD]
  | .tup xs => by rw [eqD]; exact eqDs_refl xs
  | .lst xs => by rw [eqD]; exact eqDs_refl xs
theorem eqDs_refl : ∀ xs : List D, eqDs xs xs = true
  | [] => by simp [eqDs]
  | x :: xs => by rw [eqDs, eqD_refl x, eqDs_refl xs]; rfl
end
/-! no truths within -/
mutual
def noB : D → Bool
  | .bl _ => false
  | .tup xs => noBs xs
  | .lst xs => noBs xs
  | _ => true
def noBs : List D → Bool
  | [] => true
  | x :: xs => noB x && noBs xs
end
mutual
theorem eqD_eq : ∀ d e : D, noB d = true → noB e = true → eqD d e = true → d = e
  | .non, e, _, h2, h => by cases e <;> simp_all [eqD]
  | .bl b, e, h1, _, _ => by simp [noB] at h1
  | .int i, e, _, h2, h => by cases e <;> simp_all [eqD, noB]
  | .str x, e, _, h2, h => by cases e <;> simp_all [eqD]
  | .tup xs, e, h1, h2, h => by
    cases e <;> simp only [eqD, noB, Bool.false_eq_true] at h1 h2 h
    rw [eqDs_eq _ _ h1 h2 h]
  | .lst xs, e, h1, h2, h => by
    cases e <;> simp only [eqD, noB, Bool.false_eq_true] at h1 h2 h
    rw [eqDs_eq _ _ h1 h2 h]
theorem eqDs_eq : ∀ xs ys : List D, noBs xs = true → noBs ys = true → eqDs xs ys = true → xs = ys
  | [], ys, _, _, h => by cases ys <;> simp_all [eqDs]
  | x :: xs, ys, h1, h2, h => by
    cases ys with
    | nil => simp [eqDs] at h
    | cons y ys =>
      simp only [eqDs, noBs, Bool.and_eq_true] at h1 h2 h
      rw [eqD_eq x y h1.1 h2.1 h.1, eqDs_eq xs ys h1.2 h2.2 h.2]
end
def pickEq (xs ys : List D) (j : Nat) : Bool := match xs[j]?, ys[j]? with
  | some x, some y => eqD x y
  | _, _ => false
theorem eqDs_all : ∀ xs ys : List D, eqDs xs ys = ((List.range (min xs.length ys.length)).all (pickEq xs ys) && (xs.length == ys.length))
  | [], [] => by simp [eqDs]
  | [], y :: ys => by simp [eqDs]
  | x :: xs, [] => by simp [eqDs]
  | x :: xs, y :: ys => by
    have ih := eqDs_all xs ys
    have e : min (x :: xs).length (y :: ys).length = min xs.length ys.length + 1 := by simp only [List.length_cons]; omega
    have p : pickEq (x :: xs) (y :: ys) ∘ Nat.succ = pickEq xs ys := by
      funext j; simp [pickEq]
    rw [eqDs, e, List.range_succ_eq_map, List.all_cons, List.all_map, p, ih]
    have q : pickEq (x :: xs) (y :: ys) 0 = eqD x y := by simp [pickEq]
    have l : ((x :: xs).length == (y :: ys).length) = (xs.length == ys.length) := by
      simp only [List.length_cons]
      by_cases h : xs.length = ys.length <;> simp [h]
    rw [q, l, Bool.and_assoc]

section
variable {X : Cx} {pins : List (Addr × Obj)} {σ : L2.St} {H : Hp} {s : Shared}
/-! a value stands for one datum -/
mutual
theorem Rep.inj (I : Inv X pins σ H s) : ∀ (d e : D) (v : V), Rep X.K H d v → Rep X.K H e v → d = e
  | .non, e, v, h, k => by unfold Rep at h; subst h; cases e <;> simp [Rep] at k <;> rfl
  | .bl b, e, v, h, k => by unfold Rep at h; subst h; cases e <;> simp [Rep] at k; rw [k]
  | .int i, e, v, h, k => by unfold Rep at h; subst h; cases e <;> simp [Rep] at k; rw [k]
  | .str x, e, v, h, k => by unfold Rep at h; subst h; cases e <;> simp [Rep] at k; rw [k]
  | .tup ds, e, v, h, k => by
    unfold Rep at h
    obtain ⟨a, xs, rfl, q, r⟩ := h
    cases e with
    | tup es =>
      unfold Rep at k
      obtain ⟨b, ys, e1, q2, r2⟩ := k
      cases e1
      have := I.tuple_inj q q2
      subst this
      rw [Reps.inj I ds es xs r r2]
    | lst es =>
      unfold Rep at k
      obtain ⟨b, ys, e1, q2, r2⟩ := k
      cases e1
      obtain ⟨i1, _, t1, _⟩ := I.tuple q
      obtain ⟨i2, _, t2, _⟩ := I.list q2
      exact absurd rfl (ne_of_list_tuple t2.isList (let ⟨o, h1, h2, n, h3⟩ := t1; ⟨o, h1, h2, n, h3⟩))
    | _ => simp [Rep] at k
  | .lst ds, e, v, h, k => by
    unfold Rep at h
    obtain ⟨a, xs, rfl, q, r⟩ := h
    cases e with
    | lst es =>
      unfold Rep at k
      obtain ⟨b, ys, e1, q2, r2⟩ := k
      cases e1
      have := I.list_inj q q2
      subst this
      rw [Reps.inj I ds es xs r r2]
    | tup es =>
      unfold Rep at k
      obtain ⟨b, ys, e1, q2, r2⟩ := k
      cases e1
      obtain ⟨i1, _, t1, _⟩ := I.tuple q2
      obtain ⟨i2, _, t2, _⟩ := I.list q
      exact absurd rfl (ne_of_list_tuple t2.isList (let ⟨o, h1, h2, n, h3⟩ := t1; ⟨o, h1, h2, n, h3⟩))
    | _ => simp [Rep] at k
theorem Reps.inj (I : Inv X pins σ H s) : ∀ (ds es : List D) (vs : List V), Reps X.K H ds vs → Reps X.K H es vs → ds = es
  | [], es, vs, h, k => by
    rw [h.inv0] at k
    cases es with
    | nil => rfl
    | cons e es => obtain ⟨_, _, z, _⟩ := k.inv; cases z
  | d :: ds, es, vs, h, k => by
    obtain ⟨v, r, rfl, q, t⟩ := h.inv
    cases es with
    | nil => have z := k.inv0; cases z
    | cons e es =>
      obtain ⟨_, _, z, q2, t2⟩ := k.inv
      cases z
      rw [Rep.inj I d e v q q2, Reps.inj I ds es r t t2]
end
end
end L3

/-! == and != and in over deep data. -/
namespace L3
open PySem PySem.Spec PyProof.Rows L2 PySem.SeqAt
section
variable {X : Cx} {pins : List (Addr × Obj)} {σ : L2.St} {H : Hp} {s : Shared} {A : Around}
theorem in1_units (A : Around) : A.in1.units = A.units + 1 := rfl
abbrev Elts (A : Around) (s : Shared) (xs ys : List V) (ds es : List D) : Prop :=
  ∀ us ws, Vals xs us → Vals ys ws → ∀ (j : Nat) v u, us[j]? = some v → ws[j]? = some u → EqAt A s v u (pickEq ds es j)
theorem rc_tup {a b : Addr} {xs ys : List V} {ds es : List D} (I : Inv X pins σ H s) (q : SqT X.K H a xs) (r : Reps X.K H ds xs) (q2 : SqT X.K H b ys) (r2 : Reps X.K H es ys) (hu : A.units < cLine) (he : Elts A.in1 s xs ys ds es) :
    RcAt A s (.ref a) (.ref b) (eqDs ds es) ∧ RcNeAt A s (.ref a) (.ref b) (!eqDs ds es) := by
  obtain ⟨us, rv, t1, _⟩ := I.tuple q
  obtain ⟨ws, rw', t2, _⟩ := I.tuple q2
  have l1 : us.toArray.size = ds.length := by rw [List.size_toArray, ← rv.length, r.length]
  have l2 : ws.toArray.size = es.length := by rw [List.size_toArray, ← rw'.length, r2.length]
  have el : ∀ j (h1 : j < us.toArray.size) (h2 : j < ws.toArray.size), EqAt A.in1 s us.toArray[j] ws.toArray[j] (pickEq ds es j) := fun j h1 h2 =>
    he us ws rv rw' j _ _ (by simp at h1 ⊢) (by simp at h2 ⊢)
  have e := RcAt.tuples (A := A) (s := s) (l := a) (b := b) t1 t2 hu el
  have n := RcNeAt.tuples (A := A) (s := s) (l := a) (b := b) t1 t2 hu el
  rw [l1, l2, ← eqDs_all] at e n
  exact ⟨e, n⟩
theorem rc_lst {a b : Addr} {xs ys : List V} {ds es : List D} (I : Inv X pins σ H s) (q : SqL X.K H a xs) (r : Reps X.K H ds xs) (q2 : SqL X.K H b ys) (r2 : Reps X.K H es ys) (hu : A.units < cLine) (he : Elts A.in1 s xs ys ds es) :
    RcAt A s (.ref a) (.ref b) (eqDs ds es) ∧ RcNeAt A s (.ref a) (.ref b) (!eqDs ds es) := by
  obtain ⟨us, rv, t1, _⟩ := I.list q
  obtain ⟨ws, rw', t2, _⟩ := I.list q2
  have l1 : us.toArray.size = ds.length := by rw [List.size_toArray, ← rv.length, r.length]
  have l2 : ws.toArray.size = es.length := by rw [List.size_toArray, ← rw'.length, r2.length]
  have el : ∀ j (h1 : j < us.toArray.size) (h2 : j < ws.toArray.size), EqAt A.in1 s us.toArray[j] ws.toArray[j] (pickEq ds es j) := fun j h1 h2 =>
    he us ws rv rw' j _ _ (by simp at h1 ⊢) (by simp at h2 ⊢)
  by_cases hl : ds.length = es.length
  · have e := RcAt.lists (A := A) (s := s) (l := a) (b := b) t1.isList t2.isList (by omega) hu el
    have n := RcNeAt.lists (A := A) (s := s) (l := a) (b := b) t1.isList t2.isList (by omega) hu el
    have z : eqDs ds es = (List.range ds.length).all (pickEq ds es) := by
      rw [eqDs_all, hl]; simp
    rw [l1, ← z] at e n
    exact ⟨e, n⟩
  · have hs : (us.toArray.size != ws.toArray.size) = true := by rw [l1, l2]; simpa using hl
    have e := RcAt.lists_lengths (A := A) (s := s) (l := a) (b := b) t1.isList t2.isList hs hu
    have n := RcNeAt.lists_lengths (A := A) (s := s) (l := a) (b := b) t1.isList t2.isList hs hu
    have z : eqDs ds es = false := by
      rw [eqDs_all]; simp [hl]
    rw [z]
    exact ⟨e, n⟩
mutual
theorem eqAtD (I : Inv X pins σ H s) : ∀ (d e : D) (A : Around) (v u : V) (v' u' : Value), Rep X.K H d v → Rep X.K H e u → RelV v v' → RelV u u' → A.units + deep d < cLine → EqAt A s v' u' (eqD d e)
  | .non, e, A, v, u, v', u', hd, he, rv, ru, hu => by
    unfold Rep at hd; subst hd; cases rv
    cases e <;> unfold Rep at he
    · subst he; cases ru; exact EqAt.same _
    · subst he; cases ru; exact EqAt.none_bool _
    · subst he; obtain ⟨t, rfl⟩ := ru; exact EqAt.none_int _ _
    · subst he; obtain ⟨t, rfl⟩ := ru; exact EqAt.none_str _ _
    · obtain ⟨a, xs, rfl, q, _⟩ := he; cases ru; obtain ⟨_, _, t, _⟩ := I.tuple q; exact EqAt.none_tuple t (by omega)
    · obtain ⟨a, xs, rfl, q, _⟩ := he; cases ru; obtain ⟨_, _, t, _⟩ := I.list q; exact EqAt.none_list t.isList (by omega)
  | .bl b, e, A, v, u, v', u', hd, he, rv, ru, hu => by
    unfold Rep at hd; subst hd; cases rv
    cases e <;> unfold Rep at he
    · subst he; cases ru; exact EqAt.bool_none _
    · subst he; cases ru; exact EqAt.bool_bool _ _
    · subst he; obtain ⟨t, rfl⟩ := ru; exact EqAt.bool_int _ _ _
    · subst he; obtain ⟨t, rfl⟩ := ru; exact EqAt.bool_str _ _ _
    · obtain ⟨a, xs, rfl, q, _⟩ := he; cases ru; obtain ⟨_, _, t, _⟩ := I.tuple q; exact EqAt.bool_tuple _ t (by omega)
    · obtain ⟨a, xs, rfl, q, _⟩ := he; cases ru; obtain ⟨_, _, t, _⟩ := I.list q; exact EqAt.bool_list _ t.isList (by omega)
  | .int i, e, A, v, u, v', u', hd, he, rv, ru, hu => by
    unfold Rep at hd; subst hd; obtain ⟨t0, rfl⟩ := rv
    cases e <;> unfold Rep at he
    · subst he; cases ru; exact EqAt.int_none _ _
    · subst he; cases ru; exact EqAt.int_bool _ _ _
    · subst he; obtain ⟨t, rfl⟩ := ru; exact EqAt.int_int _ _ _ _
    · subst he; obtain ⟨t, rfl⟩ := ru; exact EqAt.int_str _ _ _ _
    · obtain ⟨a, xs, rfl, q, _⟩ := he; cases ru; obtain ⟨_, _, t, _⟩ := I.tuple q; exact EqAt.int_tuple _ _ t (by omega)
    · obtain ⟨a, xs, rfl, q, _⟩ := he; cases ru; obtain ⟨_, _, t, _⟩ := I.list q; exact EqAt.int_list _ _ t.isList (by omega)
  | .str x, e, A, v, u, v', u', hd, he, rv, ru, hu => by
    unfold Rep at hd; subst hd; obtain ⟨t0, rfl⟩ := rv
    cases e <;> unfold Rep at he
    · subst he; cases ru; exact EqAt.str_none _ _
    · subst he; cases ru; exact EqAt.str_bool _ _ _
    · subst he; obtain ⟨t, rfl⟩ := ru; exact EqAt.str_int _ _ _ _
    · subst he; obtain ⟨t, rfl⟩ := ru; exact EqAt.str_str _ _ _ _
    · obtain ⟨a, xs, rfl, q, _⟩ := he; cases ru; obtain ⟨_, _, t, _⟩ := I.tuple q; exact EqAt.str_tuple _ _ t (by omega)
    · obtain ⟨a, xs, rfl, q, _⟩ := he; cases ru; obtain ⟨_, _, t, _⟩ := I.list q; exact EqAt.str_list _ _ t.isList (by omega)
  | .tup ds, e, A, v, u, v', u', hd, he, rv, ru, hu => by
    have hd0 := hd
    have he0 := he
    unfold Rep at hd
    obtain ⟨a, xs, rfl, q, r⟩ := hd
    cases rv
    rw [deep] at hu
    obtain ⟨_, _, t0, _⟩ := I.tuple q
    cases e <;> unfold Rep at he
    · subst he; cases ru; exact EqAt.tuple_none t0 (by omega)
    · subst he; cases ru; exact EqAt.tuple_bool _ t0 (by omega)
    · subst he; obtain ⟨t, rfl⟩ := ru; exact EqAt.tuple_int _ _ t0 (by omega)
    · subst he; obtain ⟨t, rfl⟩ := ru; exact EqAt.tuple_str _ _ t0 (by omega)
    · rename_i es
      obtain ⟨b, ys, rfl, q2, r2⟩ := he
      cases ru
      by_cases hab : a = b
      · subst hab
        rw [Rep.inj I _ _ _ hd0 he0, eqD_refl]
        exact EqAt.same _
      · rw [eqD]
        exact EqAt.of_refs hab (rc_tup I q r q2 r2 (by omega) fun us ws w1 w2 j v u e1 e2 => eqAtDs I ds es A.in1 xs ys us ws r r2 w1 w2 (by rw [in1_units]; omega) j v u e1 e2).1
    · obtain ⟨b, ys, rfl, q2, r2⟩ := he
      cases ru
      obtain ⟨_, _, t, _⟩ := I.list q2
      exact EqAt.tuple_list t0 t.isList (by omega)
  | .lst ds, e, A, v, u, v', u', hd, he, rv, ru, hu => by
    have hd0 := hd
    have he0 := he
    unfold Rep at hd
    obtain ⟨a, xs, rfl, q, r⟩ := hd
    cases rv
    rw [deep] at hu
    obtain ⟨_, _, t0, _⟩ := I.list q
    cases e <;> unfold Rep at he
    · subst he; cases ru; exact EqAt.list_none t0.isList (by omega)
    · subst he; cases ru; exact EqAt.list_bool _ t0.isList (by omega)
    · subst he; obtain ⟨t, rfl⟩ := ru; exact EqAt.list_int _ _ t0.isList (by omega)
    · subst he; obtain ⟨t, rfl⟩ := ru; exact EqAt.list_str _ _ t0.isList (by omega)
    · obtain ⟨b, ys, rfl, q2, r2⟩ := he
      cases ru
      obtain ⟨_, _, t, _⟩ := I.tuple q2
      exact EqAt.list_tuple t0.isList t (by omega)
    · rename_i es
      obtain ⟨b, ys, rfl, q2, r2⟩ := he
      cases ru
      by_cases hab : a = b
      · subst hab
        rw [Rep.inj I _ _ _ hd0 he0, eqD_refl]
        exact EqAt.same _
      · rw [eqD]
        exact EqAt.of_refs hab (rc_lst I q r q2 r2 (by omega) fun us ws w1 w2 j v u e1 e2 => eqAtDs I ds es A.in1 xs ys us ws r r2 w1 w2 (by rw [in1_units]; omega) j v u e1 e2).1
theorem eqAtDs (I : Inv X pins σ H s) : ∀ (ds es : List D) (A : Around) (xs ys : List V) (us ws : List Value), Reps X.K H ds xs → Reps X.K H es ys → Vals xs us → Vals ys ws → A.units + deeps ds < cLine →
    ∀ (j : Nat) v u, us[j]? = some v → ws[j]? = some u → EqAt A s v u (pickEq ds es j)
  | [], es, A, xs, ys, us, ws, hd, he, rv, ru, hu, j, v, u, e1, e2 => by
    rw [hd.inv0] at rv; cases rv; simp at e1
  | d :: ds, [], A, xs, ys, us, ws, hd, he, rv, ru, hu, j, v, u, e1, e2 => by
    rw [he.inv0] at ru; cases ru; simp at e2
  | d :: ds, e :: es, A, xs, ys, us, ws, hd, he, rv, ru, hu, j, v, u, e1, e2 => by
    obtain ⟨x, xs, rfl, hx, hxs⟩ := hd.inv
    obtain ⟨y, ys, rfl, hy, hys⟩ := he.inv
    rw [deeps] at hu
    cases rv with
    | cons rv1 rv2 =>
      cases ru with
      | cons ru1 ru2 =>
        cases j with
        | zero =>
          simp at e1 e2
          subst e1 e2
          have p : pickEq (d :: ds) (e :: es) 0 = eqD d e := by simp [pickEq]
          rw [p]
          exact eqAtD I d e A x y _ _ hx hy rv1 ru1 (by omega)
        | succ j =>
          have p : pickEq (d :: ds) (e :: es) (j + 1) = pickEq ds es j := by simp [pickEq]
          rw [p]
          exact eqAtDs I ds es A xs ys _ _ hxs hys rv2 ru2 (by omega) j v u (by simpa using e1) (by simpa using e2)
end
theorem rcD (I : Inv X pins σ H s) (d e : D) {v u : V} {v' u' : Value} (hd : Rep X.K H d v) (he : Rep X.K H e u) (rv : RelV v v') (ru : RelV u u') (hu : A.units + deep d < cLine) : RcAt A s v' u' (eqD d e) ∧ RcNeAt A s v' u' (!eqD d e) := by
  cases d with
  | non =>
    unfold Rep at hd
    subst hd; cases rv
    cases e with
    | non =>
      unfold Rep at he
      subst he; cases ru
      exact ⟨RcAt.none_none , RcNeAt.none_none ⟩
    | bl b1 =>
      unfold Rep at he
      subst he; cases ru
      exact ⟨RcAt.none_bool _ , RcNeAt.none_bool _ ⟩
    | int i1 =>
      unfold Rep at he
      subst he; obtain ⟨t1, rfl⟩ := ru
      exact ⟨RcAt.none_int _ _ , RcNeAt.none_int _ _ ⟩
    | str x1 =>
      unfold Rep at he
      subst he; obtain ⟨t1, rfl⟩ := ru
      exact ⟨RcAt.none_str _ _ , RcNeAt.none_str _ _ ⟩
    | tup es =>
      unfold Rep at he
      obtain ⟨b, ys, rfl, q2, r2⟩ := he
      cases ru
      obtain ⟨_, _, t1, _⟩ := I.tuple q2
      exact ⟨RcAt.none_tuple t1 (by omega), RcNeAt.none_tuple t1 (by omega)⟩
    | lst es =>
      unfold Rep at he
      obtain ⟨b, ys, rfl, q2, r2⟩ := he
      cases ru
      obtain ⟨_, _, t1, _⟩ := I.list q2
      exact ⟨RcAt.none_list t1.isList (by omega), RcNeAt.none_list t1.isList (by omega)⟩
  | bl b0 =>
    unfold Rep at hd
    subst hd; cases rv
    cases e with
    | non =>
      unfold Rep at he
      subst he; cases ru
      exact ⟨RcAt.bool_none _ , RcNeAt.bool_none _ ⟩
    | bl b1 =>
      unfold Rep at he
      subst he; cases ru
      exact ⟨RcAt.bool_bool _ _ , RcNeAt.bool_bool _ _ ⟩
    | int i1 =>
      unfold Rep at he
      subst he; obtain ⟨t1, rfl⟩ := ru
      exact ⟨RcAt.bool_int _ _ _ , RcNeAt.bool_int _ _ _ ⟩
    | str x1 =>
      unfold Rep at he
      subst he; obtain ⟨t1, rfl⟩ := ru
      exact ⟨RcAt.bool_str _ _ _ , RcNeAt.bool_str _ _ _ ⟩
    | tup es =>
      unfold Rep at he
      obtain ⟨b, ys, rfl, q2, r2⟩ := he
      cases ru
      obtain ⟨_, _, t1, _⟩ := I.tuple q2
      exact ⟨RcAt.bool_tuple _ t1 (by omega), RcNeAt.bool_tuple _ t1 (by omega)⟩
    | lst es =>
      unfold Rep at he
      obtain ⟨b, ys, rfl, q2, r2⟩ := he
      cases ru
      obtain ⟨_, _, t1, _⟩ := I.list q2
      exact ⟨RcAt.bool_list _ t1.isList (by omega), RcNeAt.bool_list _ t1.isList (by omega)⟩
  | int i0 =>
    unfold Rep at hd
    subst hd; obtain ⟨t0, rfl⟩ := rv
    cases e with
    | non =>
      unfold Rep at he
      subst he; cases ru
      exact ⟨RcAt.int_none _ _ , RcNeAt.int_none _ _ ⟩
    | bl b1 =>
      unfold Rep at he
      subst he; cases ru
      exact ⟨RcAt.int_bool _ _ _ , RcNeAt.int_bool _ _ _ ⟩
    | int i1 =>
      unfold Rep at he
      subst he; obtain ⟨t1, rfl⟩ := ru
      exact ⟨RcAt.int_int _ _ _ _ , RcNeAt.int_int _ _ _ _ ⟩
    | str x1 =>
      unfold Rep at he
      subst he; obtain ⟨t1, rfl⟩ := ru
      exact ⟨RcAt.int_str _ _ _ _ , RcNeAt.int_str _ _ _ _ ⟩
    | tup es =>
      unfold Rep at he
      obtain ⟨b, ys, rfl, q2, r2⟩ := he
      cases ru
      obtain ⟨_, _, t1, _⟩ := I.tuple q2
      exact ⟨RcAt.int_tuple _ _ t1 (by omega), RcNeAt.int_tuple _ _ t1 (by omega)⟩
    | lst es =>
      unfold Rep at he
      obtain ⟨b, ys, rfl, q2, r2⟩ := he
      cases ru
      obtain ⟨_, _, t1, _⟩ := I.list q2
      exact ⟨RcAt.int_list _ _ t1.isList (by omega), RcNeAt.int_list _ _ t1.isList (by omega)⟩
  | str x0 =>
    unfold Rep at hd
    subst hd; obtain ⟨t0, rfl⟩ := rv
    cases e with
    | non =>
      unfold Rep at he
      subst he; cases ru
      exact ⟨RcAt.str_none _ _ , RcNeAt.str_none _ _ ⟩
    | bl b1 =>
      unfold Rep at he
      subst he; cases ru
      exact ⟨RcAt.str_bool _ _ _ , RcNeAt.str_bool _ _ _ ⟩
    | int i1 =>
      unfold Rep at he
      subst he; obtain ⟨t1, rfl⟩ := ru
      exact ⟨RcAt.str_int _ _ _ _ , RcNeAt.str_int _ _ _ _ ⟩
    | str x1 =>
      unfold Rep at he
      subst he; obtain ⟨t1, rfl⟩ := ru
      exact ⟨RcAt.str_str _ _ _ _ , RcNeAt.str_str _ _ _ _ ⟩
    | tup es =>
      unfold Rep at he
      obtain ⟨b, ys, rfl, q2, r2⟩ := he
      cases ru
      obtain ⟨_, _, t1, _⟩ := I.tuple q2
      exact ⟨RcAt.str_tuple _ _ t1 (by omega), RcNeAt.str_tuple _ _ t1 (by omega)⟩
    | lst es =>
      unfold Rep at he
      obtain ⟨b, ys, rfl, q2, r2⟩ := he
      cases ru
      obtain ⟨_, _, t1, _⟩ := I.list q2
      exact ⟨RcAt.str_list _ _ t1.isList (by omega), RcNeAt.str_list _ _ t1.isList (by omega)⟩
  | tup ds =>
    unfold Rep at hd
    obtain ⟨a, xs, rfl, q, r⟩ := hd
    cases rv
    rw [deep] at hu
    obtain ⟨_, _, t0, _⟩ := I.tuple q
    cases e with
    | non =>
      unfold Rep at he
      subst he; cases ru
      exact ⟨RcAt.tuple_none t0 (by omega), RcNeAt.tuple_none t0 (by omega)⟩
    | bl b1 =>
      unfold Rep at he
      subst he; cases ru
      exact ⟨RcAt.tuple_bool _ t0 (by omega), RcNeAt.tuple_bool _ t0 (by omega)⟩
    | int i1 =>
      unfold Rep at he
      subst he; obtain ⟨t1, rfl⟩ := ru
      exact ⟨RcAt.tuple_int _ _ t0 (by omega), RcNeAt.tuple_int _ _ t0 (by omega)⟩
    | str x1 =>
      unfold Rep at he
      subst he; obtain ⟨t1, rfl⟩ := ru
      exact ⟨RcAt.tuple_str _ _ t0 (by omega), RcNeAt.tuple_str _ _ t0 (by omega)⟩
    | tup es =>
      unfold Rep at he
      obtain ⟨b, ys, rfl, q2, r2⟩ := he
      cases ru
      obtain ⟨_, _, t1, _⟩ := I.tuple q2
      have z := rc_tup I q r q2 r2 (A := A) (by omega) fun us ws w1 w2 j v u e1 e2 => eqAtDs I ds es A.in1 xs ys us ws r r2 w1 w2 (by rw [in1_units]; omega) j v u e1 e2
      rw [eqD]; exact z
    | lst es =>
      unfold Rep at he
      obtain ⟨b, ys, rfl, q2, r2⟩ := he
      cases ru
      obtain ⟨_, _, t1, _⟩ := I.list q2
      exact ⟨RcAt.tuple_list t0 t1.isList (by omega), RcNeAt.tuple_list t0 t1.isList (by omega)⟩
  | lst ds =>
    unfold Rep at hd
    obtain ⟨a, xs, rfl, q, r⟩ := hd
    cases rv
    rw [deep] at hu
    obtain ⟨_, _, t0, _⟩ := I.list q
    cases e with
    | non =>
      unfold Rep at he
      subst he; cases ru
      exact ⟨RcAt.list_none t0.isList (by omega), RcNeAt.list_none t0.isList (by omega)⟩
    | bl b1 =>
      unfold Rep at he
      subst he; cases ru
      exact ⟨RcAt.list_bool _ t0.isList (by omega), RcNeAt.list_bool _ t0.isList (by omega)⟩
    | int i1 =>
      unfold Rep at he
      subst he; obtain ⟨t1, rfl⟩ := ru
      exact ⟨RcAt.list_int _ _ t0.isList (by omega), RcNeAt.list_int _ _ t0.isList (by omega)⟩
    | str x1 =>
      unfold Rep at he
      subst he; obtain ⟨t1, rfl⟩ := ru
      exact ⟨RcAt.list_str _ _ t0.isList (by omega), RcNeAt.list_str _ _ t0.isList (by omega)⟩
    | tup es =>
      unfold Rep at he
      obtain ⟨b, ys, rfl, q2, r2⟩ := he
      cases ru
      obtain ⟨_, _, t1, _⟩ := I.tuple q2
      exact ⟨RcAt.list_tuple t0.isList t1 (by omega), RcNeAt.list_tuple t0.isList t1 (by omega)⟩
    | lst es =>
      unfold Rep at he
      obtain ⟨b, ys, rfl, q2, r2⟩ := he
      cases ru
      obtain ⟨_, _, t1, _⟩ := I.list q2
      have z := rc_lst I q r q2 r2 (A := A) (by omega) fun us ws w1 w2 j v u e1 e2 => eqAtDs I ds es A.in1 xs ys us ws r r2 w1 w2 (by rw [in1_units]; omega) j v u e1 e2
      rw [eqD]; exact z
def rNeD (K : PySem.W.Frag) : R2 := fun x y H Q => ∃ d e, Rep K H d x ∧ Rep K H e y ∧ deep d ≤ 60 ∧ Q (.bl (!eqD d e)) H
theorem op_neD (hu : X.A.units + 64 < cLine) : OpR X (compareOp .NotEq) (rNeD X.K) := by
  intro pins s σ H x y v u Q I rx ry h
  obtain ⟨d, e, hd, he, hz, q⟩ := h
  exact (rcD (A := X.A) I d e hd he rx ry (by omega)).2 X.prog X.w X.xe _ ⟨.bl (!eqD d e), H, I, rfl, q⟩
noncomputable def absD (K : PySem.W.Frag) (H : Hp) (u : Value) : D := by
  classical exact if h : ∃ d v, RelV v u ∧ Rep K H d v then h.choose else .non
theorem absD_eq {d : D} {v : V} {u : Value} (I : Inv X pins σ H s) (r : RelV v u) (h : Rep X.K H d v) : absD X.K H u = d := by
  have hx : ∃ d v, RelV v u ∧ Rep X.K H d v := ⟨d, v, r, h⟩
  unfold absD
  rw [dif_pos hx]
  obtain ⟨v2, r2, h2⟩ := hx.choose_spec
  have := r2.inj r
  subst this
  exact Rep.inj I _ _ _ h2 h
theorem any_vals {K : PySem.W.Frag} {H : Hp} {d : D} (f : Value → D) : ∀ {ds : List D} {xs : List V} {us : List Value}, Reps K H ds xs → Vals xs us → (∀ d v u, Rep K H d v → RelV v u → f u = d) → (us.any fun u => eqD (f u) d) = ds.any fun e => eqD e d
  | [], _, _, h, rv, _ => by rw [h.inv0] at rv; cases rv; rfl
  | e :: ds, _, _, h, rv, hf => by
    obtain ⟨v, r, rfl, q, t⟩ := h.inv
    cases rv with
    | cons r1 r2 => rw [List.any_cons, List.any_cons, hf _ _ _ q r1, any_vals f t r2 hf]
theorem mem_rep {K : PySem.W.Frag} {H : Hp} : ∀ {ds : List D} {xs : List V} {us : List Value}, Reps K H ds xs → Vals xs us → ∀ u ∈ us, ∃ d v, Rep K H d v ∧ RelV v u ∧ deep d ≤ deeps ds
  | [], _, _, h, rv, u, hu => by rw [h.inv0] at rv; cases rv; cases hu
  | e :: ds, _, _, h, rv, u, hu => by
    obtain ⟨v, r, rfl, q, t⟩ := h.inv
    cases rv with
    | cons r1 r2 =>
      rw [deeps]
      rcases List.mem_cons.mp hu with z | z
      · subst z; exact ⟨e, v, q, r1, by omega⟩
      · obtain ⟨d, w', a, b, c⟩ := mem_rep t r2 u z
        exact ⟨d, w', a, b, by omega⟩
def rInD (K : PySem.W.Frag) (neg : Bool) : R2 := fun x y H Q => ∃ d p xs ds, Rep K H d x ∧ y = .ref p ∧ SqL K H p xs ∧ Reps K H ds xs ∧ deeps ds ≤ 60 ∧ Q (.bl (if neg then !ds.any (fun e => eqD e d) else ds.any fun e => eqD e d)) H
theorem op_notInD (hu : X.A.units + 64 < cLine) : OpR X (compareOp .NotIn) (rInD X.K true) := by
  intro pins s σ H x y v u Q I rx ry h
  obtain ⟨d, p, xs, ds, hd, rfl, hq, hr, hz, q⟩ := h
  cases ry
  obtain ⟨its, rv, t, _⟩ := I.list hq
  refine notIn_listAt (fun u => eqD (absD X.K H u) d) t.isList (fun z hz' => ?_) ?_
  · obtain ⟨e, w', a, b, c⟩ := mem_rep hr rv z (by simpa using hz')
    have := eqAtD I e d X.A.in1 w' x z v a hd b rx (by rw [in1_units]; omega)
    rw [absD_eq I b a]
    exact this
  · refine ⟨.bl _, H, I, rfl, ?_⟩
    have e := any_vals (d := d) (absD X.K H) hr rv fun d v u a b => absD_eq I b a
    have e2 : (its.toArray.any fun u => eqD (absD X.K H u) d) = ds.any fun e => eqD e d := by rw [← e]; simp
    rw [e2]; exact q
end
end L3

/-! [e for x in xs], [e for x in xs if c]: the block runs in a context of its own; no exception leaves it. -/
namespace L3
open PySem PySem.Spec PyProof.Rows L2
def blk (X : Cx) (scope : Scope) (cl : List (Str × Addr)) (N' : List Str) (C : Addr) (s₀ : Shared) (H₀ : Hp) (ex : List Addr) (pn : List (Addr × Obj)) : Cx where
  prog := X.prog
  w := X.w
  K := X.K
  mg := X.mg
  base := X.base
  A := X.A
  N := N'
  s₀ := s₀
  H₀ := H₀
  env := compEnvC scope cl C X.env
  outer := X.stack
  stack := X.stack
  ex := ex
  fn := fun _ => false
  calm := X.calm
  pn := pn
  xe := fun _ _ => False
abbrev lobj (its : List Value) : Obj := { cls := .type "list", data := .seq its.toArray its.length }
theorem toE {α : Type} {t : Sem α} {Q : α → Shared → Prop} {M : Model} {A : Around} {E : Value → Shared → Prop} {s : Shared} (h : wpAny M A t Q (fun _ _ => False) s) : wpAny M A t Q E s := wpAny_mono h (fun _ _ q => q) fun _ _ f => f.elim
section
variable {X : Cx} {pins : List (Addr × Obj)} {σ : L2.St} {H : Hp} {s : Shared}
def PF (X : Cx) (ifs : List Expr) (t : TT) : Prop := ∀ (pins : List (Addr × Obj)) (s : Shared) (σ : L2.St) (H : Hp) (Q : Bool → Hp → Prop), Inv X pins σ H s → t σ H Q →
  wpAny (model X.prog X.w) X.A (forIn ifs true fun c r => if r = true then do let ok ← isTrue c X.env (eval c X.env); pure (ForInStep.yield ok) else pure (ForInStep.yield r)) (TP X pins σ Q) X.xe s
def tTrue : TT := fun _ H Q => Q true H
theorem pf_nil : PF X [] tTrue := fun _ _ _ H _ I h => wpAny_tests_nil ⟨H, I, h⟩
theorem pf_one {c : Expr} {t : TT} (h : PT X c t) : PF X [c] t := fun pins s σ H Q I hq => wpAny_tests_one (h pins s σ H Q I hq)

theorem Inv.track {D : Addr} {ys : List V} {its : List Value} (I : Inv X pins σ H s) (hD : H D = none) (ho : s.heap.get? D = some (lobj its)) (hv : Vals ys its) (hz : ys.length ≤ sizeLine)
    (h1 : D ∈ X.ex ∨ X.s₀.heap.objs.size ≤ D) (h2 : D ≠ X.env.locals) (h3 : ∀ x c, X.env.cells.lookup x = some c → c ≠ D) (h4 : ∀ p ∈ X.pn ++ pins, p.1 ≠ D) : Inv X pins σ (upd H D (.lst ys)) s := by
  have old : ∀ b u, H b = some u → upd H D (.lst ys) b = some u := fun b u e => by rw [upd_ne (ne_of_none e hD)]; exact e
  refine I.step (g' := s.gens) (t' := s.toks) (d' := s.drawn) (h' := s.heap) (ch := [D]) (fun b hb => ?_) (fun b o _ _ _ e _ => e) (fun b o _ _ _ e _ => ⟨o.slots, e⟩) (fun b o hb _ n => ?_) (fun b o _ e => ⟨o, e⟩)
    (fun b xs e => old b _ e) (fun b o u e => old b _ e) (fun b ps e => ⟨#[], by rw [old b _ e]; simp⟩) (fun m hm => hm) (fun b u e => ?_) I.bare
  · have e : b = D := by simpa using hb
    subst e
    exact ⟨h1, h2, h3, h4⟩
  · rw [upd_ne (by simpa using hb)]; exact n
  · by_cases hb : b = D
    · subst hb
      rw [upd_same] at e; cases e
      exact ⟨hz, its, its.length, hv, ho⟩
    · rw [upd_ne hb] at e
      exact (I.hok b u e).stay (fun c v _ q => q) (fun c q => old c _ q) fun c xs q => old c _ q

def lend (js : List (Option Nat)) (σ : L2.St) : L2.St := js.map fun o => o.bind fun j => (σ[j]?).join
structure Blk (X : Cx) (scope : Scope) (cl : List (Str × Addr)) (N' : List Str) (js : List (Option Nat)) : Prop where
  clos : closureFor scope X.env = pure cl
  nocell : ∀ y ∈ scope.names, y.2 ≠ .cell
  kind : scope.kind = .function
  names : ∀ y ∈ scope.names, y.2 = .local → scope.names.lookup y.1 = some .local
  sub : ∀ y c, cl.lookup y = some c → X.env.cells.lookup y = some c
  has : ∀ y, ((relabel scope X.env).names.lookup y = some .cell ∨ (relabel scope X.env).names.lookup y = some .free) → ∃ c, cl.lookup y = some c
  len : js.length = N'.length
  lent : ∀ (i : Nat) y j, N'[i]? = some y → js[i]? = some (some j) → X.N[j]? = some y ∧ Vis X.env.scope y ∧ X.env.scope.names.lookup y ≠ some .local ∧ (relabel scope X.env).names.lookup y ≠ some .local

theorem blk_inv {scope : Scope} {cl : List (Str × Addr)} {N' : List Str} {js : List (Option Nat)} {fp : List Addr} {C : Addr} {h1 : Heap} {m : Str → Option Value} {tk : Nat} (B : Blk X scope cl N' js) (I : Inv X pins σ H s) (f : ∀ b ∈ fp, FpOk X pins H b)
    (fo : ∀ b ∈ fp, ∃ o, s.heap.get? b = some o) (old : ∀ b o, s.heap.get? b = some o → h1.get? b = some o) (hns : h1.Ns C m) (hC : s.heap.objs.size ≤ C) :
    Inv (blk X scope cl N' C s H fp (X.pn ++ pins)) [] (lend js σ) H { s with heap := h1, toks := tk } := by
  have ltC : ∀ b o, s.heap.get? b = some o → b ≠ C := fun b o e => Nat.ne_of_lt (Nat.lt_of_lt_of_le (Heap.lt_size e) hC)
  refine ⟨⟨I.ok.mod, B.kind, I.ok.glob, I.ok.blt, hC, fun y z c e1 e2 => I.ok.inj y z c (B.sub y c e1) (B.sub z c e2), fun y hy => B.has y hy, (fun y c e => nomatch e), I.ok.hd, I.ok.frames, .inl rfl, fun b hb => ?_, I.bs, ?_, fun b o e hb => ?_, fun b hb hs => ?_, I.stack, I.stkFree⟩,
    rfl, I.bare, Un.kept old, ⟨m, hns, fun i y v e1 e2 e3 => ?_⟩, fun y c e => ?_, I.hok.fresh hC, fun y c e => I.freeC y c (B.sub y c e), fun p hp => ?_, I.hok.kept old, ?_⟩
  · obtain ⟨o, e⟩ := fo b hb
    exact ⟨ltC b o e, fun y c q => (f b hb).2.2.2.2.1 y c (B.sub y c q)⟩
  · exact Nat.le_trans I.ok.bsz I.sz
  · rcases (f b hb).2.2.2.1 with z | z
    · exact I.ok.noex b o e z
    · exact absurd (Nat.lt_of_lt_of_le (Heap.lt_size (I.ok.bs b o e).1) z) (Nat.lt_irrefl _)
  · rcases List.mem_cons.mp (I.stkSub b hs) with z | z
    · exact (f b hb).2.1 z
    · exact (f b hb).2.2.1 z
  · have e2' : (lend js σ)[i]? = some (some v) := e2
    unfold lend at e2'
    rw [List.getElem?_map] at e2'
    cases ej : js[i]? with
    | none => rw [ej] at e2'; cases e2'
    | some o =>
      rw [ej] at e2'
      cases o with
      | none => cases e2'
      | some j =>
        obtain ⟨n1, n2, n3, n4⟩ := B.lent i y j e1 ej
        have es : σ[j]? = some (some v) := by
          cases q : σ[j]? with
          | none => rw [show (some (some j)).map _ = _ from rfl] at e2'; simp [q] at e2'
          | some z => simp [q] at e2'; rw [e2']
        obtain ⟨m0, hn0, hl0⟩ := I.loc
        obtain ⟨u, r, l⟩ := hl0 j y v n1 es n2
        refine ⟨u, r, ?_⟩
        rcases l with ⟨k, _⟩ | ⟨k, c, ec, z⟩
        · exact absurd k n3
        · have k' : (relabel scope X.env).names.lookup y = some .cell ∨ (relabel scope X.env).names.lookup y = some .free := by
            rcases e3 with q | q
            · exact absurd q n4
            · exact q
          obtain ⟨c', ec'⟩ := B.has y k'
          have := B.sub y c' ec'
          rw [ec] at this; cases this
          obtain ⟨oc, hoc, hd⟩ := z
          exact .inr ⟨k', c, ec', oc, old _ _ hoc, hd⟩
  · obtain ⟨v, oc, hoc, hd⟩ := I.cell y c (B.sub y c e)
    exact ⟨v, oc, old _ _ hoc, hd⟩
  · have hp' : p ∈ X.pn ++ pins := by simpa [blk] using hp
    obtain ⟨e, n, ne, nf, d⟩ := I.pin p hp'
    refine ⟨old _ _ e, n, ltC _ _ e, fun hs => ?_, d⟩
    rcases List.mem_cons.mp (I.stkSub p.1 hs) with z | z
    · exact ne z
    · exact nf z
  · show (lend js σ).length = N'.length
    unfold lend
    rw [List.length_map, B.len]

theorem codeAny_compLoop_any {prog : Program} {w : World} {A : Around} {R : Result → Shared → Prop} {s : Shared} {elt target iter : Expr} {ifs : List Expr} {scope : Scope} {pos : Pos} {it acc : Value} {env : Env} (I : Nat → Shared → Prop)
    (turn : ∀ n s, I n s → wpAny (model prog w) A (pyNext it) (fun r s₁ => match r with
      | none => R (.ok .next) s₁
      | some v => wpAny (model prog w) A (letOwnedTupleGo target it v) (fun _ s₁' => wpAny (model prog w) A (assign target env v) (fun _ s₂ =>
          wpAny (model prog w) A (forIn ifs true fun c r => if r = true then do let ok ← isTrue c env (eval c env); pure (ForInStep.yield ok) else pure (ForInStep.yield r)) (fun ok s₃ =>
            if ok = true then wpAny (model prog w) A (eval elt env) (fun x s₄ =>
              wpAny (model prog w) A (call (.builtin "list.append") [acc, x]) (fun _ s₅ => ∃ m, m < n ∧ I m s₅) (fun _ _ => False) s₄) (fun _ _ => False) s₃
            else ∃ m, m < n ∧ I m s₃) (fun _ _ => False) s₂) (fun _ _ => False) s₁') (fun _ _ => False) s₁) (fun _ _ => False) s)
    (n : Nat) (h : I n s) :
    codeAny (model prog w) A (.compLoop (.ListComp elt [⟨target, iter, ifs, 0⟩] scope pos) 0 it acc env) R s := by
  refine codeAny_loop rfl I (fun n s hI => ?_) n h
  show wpAny _ A ((compTurn (.ListComp elt [⟨target, iter, ifs, 0⟩] scope pos) 0 it acc env).onRaise (fun x => do noteFrame x env; theTreesLotGoes x)) _ _ s
  refine wpAny_noted ?_
  rw [compTurn_list]
  refine wpAny_bind (wpAny_standAt (wpAny_bind (wpAny_mono (turn n s hI) (fun r s₁ h₁ => ?_) fun _ _ f => f.elim)))
  cases r with
  | none => exact wpAny_pure h₁
  | some v =>
    refine wpAny_bind (wpAny_mono h₁ (fun _ s₁' h₁' => ?_) fun _ _ f => f.elim)
    refine wpAny_bind (wpAny_mono h₁' (fun _ s₂ h₂ => wpAny_bind (wpAny_mono h₂ (fun ok s₃ h₃ => ?_) fun _ _ f => f.elim)) fun _ _ f => f.elim)
    cases ok with
    | false => exact wpAny_pure ⟨rfl, h₃⟩
    | true =>
      exact wpAny_bind (wpAny_bind (wpAny_mono h₃ (fun x s₄ h₄ => wpAny_bind (wpAny_mono h₄ (fun _ s₅ h₅ => wpAny_pure (wpAny_pure ⟨rfl, h₅⟩)) fun _ _ f => f.elim)) fun _ _ f => f.elim))

def CompGo (J : It) (g : TG) (tf : TT) (te : TE) (Q : VK) (τ0 : L2.St) (H1 : Hp) : Prop := ∃ W : Nat → Nat → List V → L2.St → Hp → Prop, (∃ m, W 0 m [] τ0 H1) ∧ ∀ i m ys τ H, W i m ys τ H →
  (J.stop i H ∧ ∀ p, H p = none → Q (.ref p) (upd H p (.lst ys))) ∨ (J.go i H ∧ ∃ Nx : List V → L2.St → Hp → Prop, (∀ ys' τ' H', Nx ys' τ' H' → ∃ m', m' < m ∧ W (i + 1) m' ys' τ' H') ∧
    ∀ v H', J.yld i H v H' → g v τ H' fun τ2 H2 => tf τ2 H2 fun b H3 => if b = true then te τ2 H3 fun y H4 => ys.length < sizeLine ∧ Nx (ys ++ [y]) τ2 H4 else Nx ys τ2 H3)
def tComp (js : List (Option Nat)) (wi : TI) (g : TG) (tf : TT) (te : TE) : TE := fun σ H Q => wi σ H fun J H1 => CompGo J g tf te Q (lend js σ) H1
theorem comp_core {elt iter tg : Expr} {ifs : List Expr} {scope : Scope} {pos : Pos} {cl : List (Str × Addr)} {N' : List Str} {js : List (Option Nat)} {g : TG} {tf : TT} {te : TE} {RR : Value → Addr → Result → Shared → Prop} {Qv : VK} {E : Value → Shared → Prop} {it : Addr} {fp : List Addr} {tn : Nat → Heap → Prop} {J : It} {H2 : Hp} {s2 : Shared}
    (hc : X.calm = true) (B : Blk X scope cl N' js) (hg : ∀ C s₀ H₀ ex pn, PG (blk X scope cl N' C s₀ H₀ ex pn) tg g) (hf : ∀ C s₀ H₀ ex pn, PF (blk X scope cl N' C s₀ H₀ ex pn) ifs tf) (he : ∀ C s₀ H₀ ex pn, PE (blk X scope cl N' C s₀ H₀ ex pn) elt te)
    (I2 : Inv X pins σ H2 s2) (T : Turn X.prog X.w X.K tg J fp it tn) (st2 : tn 0 s2.heap) (f2 : ∀ b ∈ fp, FpOk X pins H2 b) (cg : CompGo J g tf te Qv (lend js σ) H2)
    (fin : ∀ (Dd Cc : Addr) (m : Str → Option Value) (s4 : Shared) (Hx : Hp), Inv X pins σ Hx s4 → Qv (.ref Dd) Hx → s4.heap.Ns Cc m → Hx Cc = none → Cc ≠ X.env.locals → X.s₀.heap.objs.size ≤ Cc → (∀ x c, X.env.cells.lookup x = some c → c ≠ Cc) → (∀ p ∈ X.pn ++ pins, p.1 ≠ Cc) →
      RR (.ref Dd) Cc (.ok .next) s4) :
    wpAny (model X.prog X.w) X.A (newList []) (fun acc s₃ => wpAny (model X.prog X.w) X.A (newFunctionEnv scope X.env.globals cl [] X.env.qual none .none (some X.env)) (fun cenv s₄ =>
      codeAny (model X.prog X.w) X.A (.compStart (.ListComp elt [⟨tg, iter, ifs, 0⟩] scope pos) 0 (.ref it) acc { cenv with scope := relabel scope X.env }) (RR acc cenv.locals) s₄) E s₃) E s2 := by
  obtain ⟨W, ⟨m0, w0⟩, turn⟩ := cg
  refine wpAny_newObj_type (wpAny_newFunctionEnv B.nocell (by intro y hy; simp at hy) (fun h₁ hns₁ hsb₁ => ?_) B.kind)
  dsimp only at hns₁ hsb₁ ⊢
  generalize hG : s2.heap.push { cls := .type "list", dict := none, data := .seq ([] : List Value).toArray } = G at hns₁ hsb₁ ⊢
  have hC : G.objs.size = s2.heap.objs.size + 1 := by rw [← hG, Heap.size_push]
  have hDC : s2.heap.objs.size ≠ G.objs.size := by rw [hC]; exact Nat.ne_of_lt (Nat.lt_succ_self _)
  have below : ∀ b, b < s2.heap.objs.size → b ≠ G.objs.size ∧ b ≠ s2.heap.objs.size := fun b hb => ⟨by rw [hC]; exact Nat.ne_of_lt (Nat.lt_succ_of_lt hb), Nat.ne_of_lt hb⟩
  have old : ∀ b o, s2.heap.get? b = some o → h₁.get? b = some o := fun b o e => hsb₁.extBut b o (below b (Heap.lt_size e)).1 (Heap.get?_push_of_some _ (hG ▸ Heap.get?_push_of_some _ e))
  have hacc : h₁.get? s2.heap.objs.size = some (lobj []) := hsb₁.extBut _ _ hDC (Heap.get?_push_of_some _ (hG ▸ Heap.get?_push_size _ rfl))
  have fo : ∀ b ∈ fp, ∃ o, s2.heap.get? b = some o := fun b hb => let ⟨o, e, _⟩ := T.obj 0 _ st2 b hb; ⟨o, e⟩
  have I4 := blk_inv (tk := s2.toks + ([] : List (Str × Value)).length) B I2 f2 fo old hns₁ (by rw [hC]; exact Nat.le_succ _)
  generalize hD : s2.heap.objs.size = Dd at *
  generalize hCC : G.objs.size = Cc at *
  have st4 : tn 0 h₁ := T.keep 0 _ _ st2 fun b _ o e => old b o e
  have fpne : ∀ b ∈ fp, b ≠ Dd := fun b hb => let ⟨o, e⟩ := fo b hb; by rw [← hD]; exact Nat.ne_of_lt (Heap.lt_size e)
  have hDfree : H2 Dd = none := I2.hok.fresh (by rw [hD]; exact Nat.le_refl _)
  have hDfs : Dd ∉ frs X.stack := fun hb => by
    rcases List.mem_cons.mp (I2.stkSub _ hb) with z | z
    · have := I2.lt; rw [← z, hD] at this; exact Nat.lt_irrefl _ this
    · exact I2.nofs (a := Dd) (by rw [hD]; exact Nat.le_refl _) z
  have hDcell : ∀ x c, X.env.cells.lookup x = some c → c ≠ Dd := fun x c e z => by
    obtain ⟨v, q⟩ := I2.cell x c e
    have := q.lt
    rw [z, ← hD] at this; exact Nat.lt_irrefl _ this
  have hDpin : ∀ p ∈ X.pn ++ pins, p.1 ≠ Dd := fun p hp z => by
    have := Heap.lt_size (I2.pin p hp).1
    rw [z, ← hD] at this; exact Nat.lt_irrefl _ this
  -- the block's context
  generalize hXb : blk X scope cl N' Cc s2 H2 fp (X.pn ++ pins) = Xb at I4
  have xP : Xb.prog = X.prog := by rw [← hXb]; rfl
  have xW : Xb.w = X.w := by rw [← hXb]; rfl
  have xK : Xb.K = X.K := by rw [← hXb]; rfl
  have xA : Xb.A = X.A := by rw [← hXb]; rfl
  have xC : Xb.calm = true := by rw [← hXb]; exact hc
  have xL : Xb.env.locals = Cc := by rw [← hXb]; rfl
  have xFs : Xb.fs = frs X.stack := by rw [← hXb]; rfl
  have xEx : Xb.ex = fp := by rw [← hXb]; rfl
  have xPn : Xb.pn = X.pn ++ pins := by rw [← hXb]; rfl
  have xS : Xb.s₀ = s2 := by rw [← hXb]; rfl
  have xH : Xb.H₀ = H2 := by rw [← hXb]; rfl
  have xCl : ∀ y c, Xb.env.cells.lookup y = some c → X.env.cells.lookup y = some c := by rw [← hXb]; exact B.sub
  have xE : Xb.env = compEnvC scope cl Cc X.env := by rw [← hXb]; rfl
  have xX : Xb.xe = fun _ _ => False := by rw [← hXb]; rfl
  have hg' : PG Xb tg g := by rw [← hXb]; exact hg _ _ _ _ _
  have hf' : PF Xb ifs tf := by rw [← hXb]; exact hf _ _ _ _ _
  have he' : PE Xb elt te := by rw [← hXb]; exact he _ _ _ _ _
  have fok : ∀ {H' : Hp} {o : Obj}, (∀ b ∈ fp, H' b = none) → ∀ b ∈ fp, FpOk Xb [(Dd, o)] H' b := fun {H' o} hn b hb => by
    obtain ⟨o', e'⟩ := fo b hb
    refine ⟨hn b hb, ?_, ?_, .inl (by rw [xEx]; exact hb), fun y c q => (f2 b hb).2.2.2.2.1 y c (xCl y c q), fun p hp => ?_⟩
    · rw [xL]; exact (below b (by have := Heap.lt_size e'; rw [hD] at this; exact this)).1
    · rw [xFs]
      intro hs
      rcases List.mem_cons.mp (I2.stkSub b hs) with z | z
      · exact (f2 b hb).2.1 z
      · exact (f2 b hb).2.2.1 z
    · rw [xPn] at hp
      rcases List.mem_append.mp hp with z | z
      · exact (f2 b hb).2.2.2.2.2 p z
      · rw [List.mem_singleton.mp z]; exact (fpne b hb).symm
  have hDC' : Dd ≠ Cc := by rw [← hD, ← hCC]; rw [← hCC, ← hD] at hDC; exact hDC
  have loop : codeAny (model X.prog X.w) X.A (.compLoop (.ListComp elt [⟨tg, iter, ifs, 0⟩] scope pos) 0 (.ref it) (.ref Dd) (compEnvC scope cl Cc X.env)) (RR (.ref Dd) Cc)
      { s2 with heap := h₁, toks := s2.toks + ([] : List (Str × Value)).length } := by
    refine codeAny_compLoop_any (fun n s' => ∃ i ys τ H' its, Inv Xb [(Dd, lobj its)] τ H' s' ∧ tn i s'.heap ∧ (∀ b ∈ fp, H' b = none) ∧ Vals ys its ∧ ys.length ≤ sizeLine ∧ W i n ys τ H') ?_ m0
      ⟨0, [], _, H2, [], I4.pins_of (fun p hp => ?_), st4, fun b hb => (f2 b hb).1, .nil, Nat.zero_le _, w0⟩
    · rintro n s3 ⟨i, ys, τ, H3, its, I3, st3, fr3, hv, hz, w3⟩
      have pD := I3.pin (Dd, lobj its) (List.mem_append_right _ (List.mem_singleton.mpr rfl))
      rcases turn i n ys τ H3 w3 with ⟨stop, qn⟩ | ⟨go, Nx, hN, step⟩
      · have hd := T.done Xb xP xW xK xC i [(Dd, lobj its)] s3 τ H3 (fun _ _ => False) I3 (fok fr3) st3 stop
        rw [xA] at hd
        refine thn hd fun r s4 ⟨hr, I5⟩ => ?_
        subst hr
        obtain ⟨m, hn, _⟩ := id I5.loc
        rw [xL] at hn
        have pD5 := I5.pin (Dd, lobj its) (List.mem_append_right _ (List.mem_singleton.mpr rfl))
        have ub := I5.base
        rw [xFs, xEx, xS, xH] at ub
        have hfC : H3 Cc = none := by have := I5.free; rw [xL] at this; exact this
        have ok5 : HOk X.prog X.w H3 s4.heap := by have := I5.hok; rw [xP, xW] at this; exact this
        have IX : Inv X pins σ H3 s4 := I2.call' (s' := s4) (by rw [I5.os, xS]) ub ok5 I5.bare fun b hb => ⟨(f2 b hb).2.2.2.1, (f2 b hb).2.1, (f2 b hb).2.2.2.2.1, (f2 b hb).2.2.2.2.2⟩
        have hlo : X.s₀.heap.objs.size ≤ Dd := by rw [← hD]; exact I2.sz
        have hloL : Dd ≠ X.env.locals := fun z => by have := I2.lt; rw [← z, hD] at this; exact Nat.lt_irrefl _ this
        have hCD : Dd ≤ Cc := by omega
        refine fin Dd Cc m s4 (upd H3 Dd (.lst ys)) (L3.Inv.track IX pD5.2.1 pD5.1 hv hz (.inr hlo) hloL hDcell hDpin) (qn Dd pD5.2.1) hn (by rw [upd_ne hDC'.symm]; exact hfC) ?_ (Nat.le_trans hlo hCD) ?_ ?_
        · intro z; have := I2.lt; rw [← z, hD] at this; exact Nat.lt_irrefl _ (Nat.lt_of_lt_of_le this hCD)
        · intro x c e z
          obtain ⟨v, q⟩ := I2.cell x c e
          have := q.lt
          rw [z, hD] at this; exact Nat.lt_irrefl _ (Nat.lt_of_lt_of_le this hCD)
        · intro p hp z
          have := Heap.lt_size (I2.pin p hp).1
          rw [z, hD] at this; exact Nat.lt_irrefl _ (Nat.lt_of_lt_of_le this hCD)
      · have hit := T.item Xb xP xW xK xC i [(Dd, lobj its)] s3 τ H3 (fun _ _ => False) I3 (fok fr3) st3 go
        rw [xA] at hit
        refine thn hit fun r s4 ⟨u, hr, h4⟩ => ?_
        subst hr
        refine thn h4 fun _ s5 ⟨x, H5, I5, r5, y5, st5, fr5⟩ => ?_
        have I5' := I5.pinned (fok fr5) (T.obj _ _ st5)
        have ga := hg' _ s5 τ H5 x u _ I5' r5 (step x H5 y5)
        rw [xP, xW, xA, xE, xX] at ga
        refine thn ga fun _ s6 ⟨τ6, H6, I6, q6⟩ => ?_
        have fa := hf' _ s6 τ6 H6 _ I6 q6
        rw [xP, xW, xA, xE, xX] at fa
        refine thn fa fun ok s7 ⟨H7, I7, q7⟩ => ?_
        have back : ∀ {τ8 : L2.St} {H8 : Hp} {s8 : Shared}, Inv Xb ([(Dd, lobj its)] ++ pinsAt fp s5.heap) τ8 H8 s8 → tn (i + 1) s8.heap ∧ (∀ b ∈ fp, H8 b = none) := fun {τ8 H8 s8} I8 =>
          ⟨T.keep _ _ _ st5 fun b hb o e => (I8.pin (b, o) (List.mem_append_right _ (List.mem_append_right _ (mem_pinsAt hb e)))).1, fun b hb => by
            obtain ⟨o, e, d⟩ := T.obj _ _ st5 b hb
            exact (I8.pin (b, o) (List.mem_append_right _ (List.mem_append_right _ (mem_pinsAt hb e)))).2.1⟩
        cases ok with
        | false =>
          rw [if_neg (by simp)] at q7 ⊢
          obtain ⟨m', hm, w7⟩ := hN _ _ _ q7
          obtain ⟨b1, b2⟩ := back I7
          exact ⟨m', hm, i + 1, ys, τ6, H7, its, I7.unpinned, b1, b2, hv, hz, w7⟩
        | true =>
          rw [if_pos rfl] at q7 ⊢
          have ea := he' _ s7 τ6 H7 _ I7 q7
          rw [xP, xW, xA, xE, xX] at ea
          refine thn ea fun yv s8 ⟨y, H8, I8, r8, hlt, n8⟩ => ?_
          have pD8 := I8.pin (Dd, lobj its) (List.mem_append_right _ (List.mem_append_left _ (List.mem_singleton.mpr rfl)))
          have hil : its.length = ys.length := hv.length.symm
          refine append_at (hsz := by rw [List.size_toArray]; omega) pD8.1 fun h' hs' ho' => ?_
          obtain ⟨m', hm, w8⟩ := hN _ _ _ n8
          obtain ⟨b1, b2⟩ := back I8
          have J1 : Inv Xb [] τ6 H8 s8 := I8.pins_of (fun p hp => nomatch hp)
          have J2 : Inv Xb [] τ6 H8 { s8 with heap := h' } := J1.turned (t' := s8.toks) (it := Dd) (fun b o hb e => (hs'.2 b hb).trans e) pD8.2.1 pD8.2.2.1 (.inr (by rw [xS, hD]; exact Nat.le_refl _)) (fun y c q => hDcell y c (xCl y c q)) fun p hp => by
            rw [xPn, List.append_nil] at hp
            exact hDpin p hp
          refine ⟨m', hm, i + 1, ys ++ [y], τ6, H8, its ++ [yv], J2.pins_of fun p hp => ?_, T.keep _ _ _ b1 fun b hb o e => (hs'.2 b (fpne b hb)).trans e, b2, hv.append (.cons r8 .nil), by rw [List.length_append, List.length_singleton]; omega, w8⟩
          rw [List.mem_singleton.mp hp]
          refine ⟨?_, pD8.2.1, pD8.2.2.1, pD8.2.2.2.1, fun v z => nomatch z⟩
          show h'.get? Dd = some (lobj (its ++ [yv]))
          rw [ho']
          show some ({ cls := .type "list", data := .seq (its.toArray.push yv) (its.length + 1) } : Obj) = some { cls := .type "list", data := .seq (its ++ [yv]).toArray (its ++ [yv]).length }
          rw [List.length_append, List.length_singleton, List.push_toArray]
    · rw [List.mem_singleton.mp hp]
      refine ⟨hacc, hDfree, ?_, ?_, fun v z => nomatch z⟩
      · rw [xL]; rw [← hCC, ← hD]; rw [← hCC, ← hD] at hDC; exact hDC
      · rw [xFs]; exact hDfs
  exact codeAny_compStart_list loop (T.self X.A 0 _ _ _ st4 loop)

theorem pe_comp {elt iter tg : Expr} {ifs : List Expr} {scope : Scope} {pos : Pos} {cl : List (Str × Addr)} {N' : List Str} {js : List (Option Nat)} {wi : TI} {g : TG} {tf : TT} {te : TE} (hc : X.calm = true) (B : Blk X scope cl N' js) (hi : PI X tg iter wi)
    (hg : ∀ C s₀ H₀ ex pn, PG (blk X scope cl N' C s₀ H₀ ex pn) tg g) (hf : ∀ C s₀ H₀ ex pn, PF (blk X scope cl N' C s₀ H₀ ex pn) ifs tf) (he : ∀ C s₀ H₀ ex pn, PE (blk X scope cl N' C s₀ H₀ ex pn) elt te)
    (hs : ∀ x, foldedSetIterable iter X.env x = pure x := by intro _; rfl) : PE X (.ListComp elt [⟨tg, iter, ifs, 0⟩] scope pos) (tComp js wi g tf te) := by
  intro pins s σ H Q I h
  rw [eval_ListComp]
  refine wpAny_comprehension_free (use := none) rfl hs B.clos B.kind B.names (thn (hi pins s σ H _ I h) fun xv s1 h1 => thn h1 fun itv s2 h2 => ?_)
  obtain ⟨it, fp, tn, J, H2, e, I2, T, st2, f2, cg⟩ := h2
  subst e
  refine comp_core (RR := fun acc C => compPost (model X.prog X.w) X.A X.xe none (EP X pins σ Q) acc C) hc B hg hf he I2 T st2 f2 cg ?_
  intro Dd Cc m s4 Hx IX q hn hC cL cS cC cP
  refine ⟨m, hn, fun h' hs' => ⟨.ref Dd, Hx, ?_, rfl, q⟩⟩
  exact IX.turned (t' := s4.toks) (it := Cc) (fun b o hb e => (hs'.2 b hb).trans e) hC cL (.inr cS) cC cP
end
/-! ### a block from checks -/
def capt (env : Env) : List (Str × NameKind) → List (Str × Addr) → List (Str × Addr)
  | [], acc => acc
  | (n, k) :: r, acc => capt env r (if k == .free then (match env.cells.lookup n with | some c => (n, c) :: acc | none => acc) else acc)
theorem lookup_cons' {n y : Str} {c : Addr} {acc : List (Str × Addr)} : ((n, c) :: acc).lookup y = if y == n then some c else acc.lookup y := by
  rw [List.lookup_cons]; cases y == n <;> rfl
theorem capt_sub {env : Env} : ∀ (names : List (Str × NameKind)) (acc : List (Str × Addr)), (∀ y c, acc.lookup y = some c → env.cells.lookup y = some c) → ∀ y c, (capt env names acc).lookup y = some c → env.cells.lookup y = some c
  | [], acc, h, y, c, e => h y c e
  | (n, k) :: r, acc, h, y, c, e => by
    unfold capt at e
    refine capt_sub r _ (fun y c q => ?_) y c e
    split at q
    · split at q
      · rename_i c' hc
        rw [lookup_cons'] at q
        split at q
        · rename_i hy
          cases q
          rw [eq_of_beq hy]; exact hc
        · exact h y c q
      · exact h y c q
    · exact h y c q
theorem capt_keep {env : Env} {y : Str} : ∀ (names : List (Str × NameKind)) (acc : List (Str × Addr)), (∃ c, acc.lookup y = some c) → ∃ c, (capt env names acc).lookup y = some c
  | [], acc, h => h
  | (n, k) :: r, acc, h => by
    unfold capt
    refine capt_keep r _ ?_
    split
    · split
      · rw [lookup_cons']
        split
        · exact ⟨_, rfl⟩
        · exact h
      · exact h
    · exact h
theorem capt_has {env : Env} {y : Str} (hy : (env.cells.lookup y).isSome = true) : ∀ (names : List (Str × NameKind)) (acc : List (Str × Addr)), (y, NameKind.free) ∈ names → ∃ c, (capt env names acc).lookup y = some c
  | (n, k) :: r, acc, h => by
    unfold capt
    rcases List.mem_cons.mp h with z | z
    · cases z
      refine capt_keep r _ ?_
      obtain ⟨c, hc⟩ := Option.isSome_iff_exists.mp hy
      rw [if_pos (by rfl), hc]
      exact ⟨c, by rw [lookup_cons', if_pos (beq_self_eq_true y)]⟩
    · exact capt_has hy r _ z
theorem relabel_free {scope : Scope} {env : Env} {y : Str} (h0 : ∀ z ∈ scope.names, z.2 ≠ .cell) (h : (relabel scope env).names.lookup y = some .cell ∨ (relabel scope env).names.lookup y = some .free) : (y, NameKind.free) ∈ scope.names := by
  have mem : ∃ k, (k = NameKind.cell ∨ k = NameKind.free) ∧ (y, k) ∈ (relabel scope env).names := by
    rcases h with h | h
    · exact ⟨_, .inl rfl, PySem.mem_of_lookup h⟩
    · exact ⟨_, .inr rfl, PySem.mem_of_lookup h⟩
  obtain ⟨k, hk, hm⟩ := mem
  unfold relabel at hm
  obtain ⟨⟨n, k'⟩, hm', e⟩ := List.mem_map.mp hm
  simp only at e
  split at e
  · rename_i hc
    cases e
    have : k' = .free := by
      simp only [Bool.and_eq_true, beq_iff_eq] at hc
      exact hc.1.1
    rw [← this]; exact hm'
  · cases e
    rcases hk with rfl | rfl
    · exact absurd rfl (h0 _ hm')
    · exact hm'
def chkFree (scope : Scope) (env : Env) : Bool := scope.names.all fun y => y.2 != .free || (env.cells.lookup y.1).isSome
def chkLent (X : Cx) (scope : Scope) : List Str → List (Option Nat) → Bool
  | [], [] => true
  | y :: N, o :: js => (match o with
    | none => true
    | some j => X.N[j]? == some y && (X.env.scope.names.lookup y == some .cell || X.env.scope.names.lookup y == some .free) && (relabel scope X.env).names.lookup y != some .local) && chkLent X scope N js
  | _, _ => false
theorem chkLent_at {X : Cx} {scope : Scope} : ∀ {N : List Str} {js : List (Option Nat)}, chkLent X scope N js = true → js.length = N.length ∧ ∀ (i : Nat) y j, N[i]? = some y → js[i]? = some (some j) → X.N[j]? = some y ∧ Vis X.env.scope y ∧ X.env.scope.names.lookup y ≠ some .local ∧ (relabel scope X.env).names.lookup y ≠ some .local
  | [], [], _ => ⟨rfl, fun i y j h => by simp at h⟩
  | [], _ :: _, h => by simp [chkLent] at h
  | _ :: _, [], h => by simp [chkLent] at h
  | z :: N, o :: js, h => by
    unfold chkLent at h
    rw [Bool.and_eq_true] at h
    obtain ⟨l, t⟩ := chkLent_at h.2
    refine ⟨by rw [List.length_cons, List.length_cons, l], fun i y j h1 h2 => ?_⟩
    cases i with
    | zero =>
      simp at h1 h2
      subst h1 h2
      have h' := h.1
      simp only [Bool.and_eq_true, Bool.or_eq_true, beq_iff_eq, bne_iff_ne] at h'
      refine ⟨h'.1.1, ?_, ?_, h'.2⟩
      · rcases h'.1.2 with q | q
        · exact .inr (.inl q)
        · exact .inr (.inr q)
      · rcases h'.1.2 with q | q <;> rw [q] <;> decide
    | succ i => exact t i y j (by simpa using h1) (by simpa using h2)
theorem blk_mk {X : Cx} {scope : Scope} {N' : List Str} {js : List (Option Nat)} (clos : closureFor scope X.env = pure (capt X.env scope.names [])) (nocell : ∀ y ∈ scope.names, y.2 ≠ .cell) (kind : scope.kind = .function)
    (names : ∀ y ∈ scope.names, y.2 = .local → scope.names.lookup y.1 = some .local) (free : chkFree scope X.env = true) (lent : chkLent X scope N' js = true) : Blk X scope (capt X.env scope.names []) N' js where
  clos := clos
  nocell := nocell
  kind := kind
  names := names
  sub := capt_sub _ _ fun y c e => nomatch e
  has := fun y h => by
    have hm := relabel_free nocell h
    have hf := List.all_eq_true.mp free _ hm
    exact capt_has (by simpa using hf) _ _ hm
  len := (chkLent_at lent).1
  lent := (chkLent_at lent).2
theorem comp_list {K : PySem.W.Frag} {a : Addr} {xs : List V} {g : TG} {tf : TT} {te : TE} {τ : L2.St} {H : Hp} {Q : VK} (Pv : Nat → List V → L2.St → Hp → Prop) (h0 : Pv 0 [] τ H) (hl : ∀ i ys τ H, Pv i ys τ H → SqL K H a xs)
    (hs : ∀ i x ys τ H, xs[i]? = some x → Pv i ys τ H → g x τ H fun τ2 H2 => tf τ2 H2 fun b H3 => if b = true then te τ2 H3 fun y H4 => ys.length < sizeLine ∧ Pv (i + 1) (ys ++ [y]) τ2 H4 else Pv (i + 1) ys τ2 H3)
    (hd : ∀ ys τ H, Pv xs.length ys τ H → ∀ p, H p = none → Q (.ref p) (upd H p (.lst ys))) :
    CompGo (Itl K a) g tf te Q τ H := by
  refine ⟨fun i m ys τ H => m = xs.length - i ∧ i ≤ xs.length ∧ Pv i ys τ H, ⟨xs.length, by simp, Nat.zero_le _, h0⟩, ?_⟩
  rintro i m ys τ H ⟨rfl, hi, p⟩
  have q := hl i ys τ H p
  by_cases hlt : i < xs.length
  · refine .inr ⟨⟨xs, xs[i], q, by simp [hlt]⟩, Pv (i + 1), fun ys' τ' H' p' => ⟨xs.length - (i + 1), by omega, rfl, hlt, p'⟩, fun x H' y => ?_⟩
    obtain ⟨e, y⟩ := y
    subst e
    exact hs i x ys τ _ (y xs q) p
  · have e : i = xs.length := by omega
    subst e
    exact .inl ⟨⟨xs, q, Nat.le_refl _⟩, hd ys τ H p⟩
end L3

/-! min and max of a list of texts. -/
namespace L3
open PySem PySem.Spec PyProof.Rows L2
section
variable {prog : Program} {w : World} {A : Around} {E : Value → Shared → Prop} {s : Shared} {l : Addr} {xs : Array Value}
end
section
variable {X : Cx}
end
end L3

/-! xs[::-1] of a list. -/
namespace L3
open PySem PySem.Spec PyProof.Rows L2
section
variable {X : Cx} {e st : Expr} {te ts : TE} {pos p2 : Pos}
end
end L3

/-! which parts of a literal are no starred ones: told by their kind at once. -/
namespace L3
open PySem PySem.Spec PyProof.Rows L2
section
variable {rest : List Expr} {pos : Pos} {env : Env}
theorem starT {es : List Expr} {k : Nat} : starEach (.Tuple es k pos :: rest) env = (false, eval (.Tuple es k pos) env) :: starEach rest env := rfl
theorem starL {es : List Expr} : starEach (.List es pos :: rest) env = (false, eval (.List es pos) env) :: starEach rest env := rfl
theorem starS {l i : Expr} : starEach (.Subscript l i pos :: rest) env = (false, eval (.Subscript l i pos) env) :: starEach rest env := rfl
theorem starB {l r : Expr} {o : Operator} : starEach (.BinOp l o r pos :: rest) env = (false, eval (.BinOp l o r pos) env) :: starEach rest env := rfl
theorem starC {f : Expr} {es : List Expr} {ks : List Keyword} : starEach (.Call f es ks pos :: rest) env = (false, eval (.Call f es ks pos) env) :: starEach rest env := rfl
end
end L3

/-! The table of a set: where a hash is looked for, and that the first free place is found. -/
namespace ST
open PySem PySem.SetTable
def it : Nat → Nat → Nat
  | 0, x => x
  | n + 1, x => it n (5 * x + 1)
/-! ### the places that are looked at -/
def adv (mask : Nat) (p : Probe) : Probe :=
  if p.more > 0 then { p with j := p.j + 1, more := p.more - 1 } else
  { p with j := (leap mask p.i p.perturb).1, more := runEnd mask (leap mask p.i p.perturb).1 - (leap mask p.i p.perturb).1, i := (leap mask p.i p.perturb).1, perturb := (leap mask p.i p.perturb).2 }
def blockAt (mask i perturb : Nat) : Probe := { j := i, more := runEnd mask i - i, i, perturb, dummy := none }
def st (mask : Nat) (h : Int) : Probe := blockAt mask (bits h % (mask + 1)) (bits h)
def itr (mask : Nat) : Nat → Probe → Probe
  | 0, p => p
  | n + 1, p => itr mask n (adv mask p)
def pos (mask : Nat) (h : Int) (n : Nat) : Nat := (itr mask n (st mask h)).j
def bk (mask : Nat) : Nat → Nat × Nat → Nat × Nat
  | 0, x => x
  | m + 1, x => bk mask m (leap mask x.1 x.2)
end ST

namespace ST
open PySem PySem.SetTable
/-! ### one more -/
end ST

namespace ST
open PySem PySem.SetTable
/-! ### all laid anew -/
end ST

namespace ST
open PySem PySem.SetTable
end ST

/-! A set of tuples: what an addition does. -/
namespace PySem
section
variable {prog : Program} {w : World} {K : Type} [DecidableEq K] (knd : KeyKind prog w K)
variable {knd} {A : Around} {E : Value → Shared → Prop} {s : Shared}
end
end PySem

namespace PySem
section
variable {prog : Program} {w : World} {K : Type} [DecidableEq K] {knd : KeyKind prog w K} {A : Around} {E : Value → Shared → Prop} {s : Shared}
open ST in
end
end PySem

namespace PySem
section
variable {prog : Program} {w : World} {K : Type} [DecidableEq K] {knd : KeyKind prog w K} {A : Around} {E : Value → Shared → Prop} {s : Shared}
open ST in
end
end PySem

/-! set(xs): the new set, filled one by one. -/
namespace PySem
section
variable {prog : Program} {w : World} {A : Around} {E : Value → Shared → Prop} {s : Shared}
end
end PySem

namespace PySem
section
variable {prog : Program} {w : World} {B : Around} {E : Value → Shared → Prop} {s : Shared}
end
end PySem

namespace L3
open PySem PySem.Spec PyProof.Rows L2
def ndist {κ : Type} [DecidableEq κ] : List κ → Nat
  | [] => 0
  | x :: xs => if x ∈ xs then ndist xs else ndist xs + 1
section
variable {X : Cx}
end
end L3

namespace L3
open PySem PySem.Spec PyProof.Rows L2
section
variable {X : Cx}
end
end L3

/-! Marks, steps, scribes in the heap; what stays while lists change. -/
namespace L3
open PySem PySem.Spec PyProof.Rows L2
abbrev Mk := Int × Str
abbrev Stp := Int × Str × Str × Int
def Grow (H H' : Hp) : Prop := ∀ b o, H b = some o → (∀ xs, o ≠ .lst xs) → H' b = some o
theorem Same.grow {H H' : Hp} (g : Same H H') : Grow H H' := fun b o h _ => g b o h
theorem grow_upd {H : Hp} {p : Addr} {xs : List V} (h : H p = some (.lst xs)) (o : HO) : Grow H (upd H p o) := fun b u q n => by
  rw [upd_ne]
  · exact q
  · rintro rfl; rw [h] at q; cases q; exact n xs rfl
theorem grow_new {H : Hp} {p : Addr} (h : H p = none) (o : HO) : Grow H (upd H p o) := Same.grow (same_new h o)
theorem Grow.seqT {K : PySem.W.Frag} {H H' : Hp} {a : Addr} {xs : List V} (e : Grow H H') (h : SqT K H a xs) : SqT K H' a xs := by
  rcases h with (h | ⟨o, h⟩) | h
  · exact .inl (.inl (e _ _ h (by intro _ q; cases q)))
  · exact .inl (.inr ⟨o, e _ _ h (by intro _ q; cases q)⟩)
  · exact .inr h
def MkV (K : PySem.W.Frag) (H : Hp) (m : Mk) (v : V) : Prop := ∃ b, v = .ref b ∧ SqT K H b [.int m.1, .str m.2]
def StV (K : PySem.W.Frag) (H : Hp) (t : Stp) (v : V) : Prop := ∃ b, v = .ref b ∧ SqT K H b [.int t.1, .str t.2.1, .str t.2.2.1, .int t.2.2.2]
theorem MkV.mono {K : PySem.W.Frag} {H H' : Hp} {m : Mk} {v : V} (g : Grow H H') : MkV K H m v → MkV K H' m v := fun ⟨b, e, h⟩ => ⟨b, e, g.seqT h⟩
theorem StV.mono {K : PySem.W.Frag} {H H' : Hp} {m : Stp} {v : V} (g : Grow H H') : StV K H m v → StV K H' m v := fun ⟨b, e, h⟩ => ⟨b, e, g.seqT h⟩
theorem paired_mono {α β : Type} {F G : α → β → Prop} (h : ∀ a b, F a b → G a b) : ∀ {xs : List α} {ys : List β}, Paired F xs ys → Paired G xs ys
  | _, _, .nil => .nil
  | _, _, .cons p q => .cons (h _ _ p) (paired_mono h q)
theorem paired_append {α β : Type} {F : α → β → Prop} : ∀ {xs xs' : List α} {ys ys' : List β}, Paired F xs ys → Paired F xs' ys' → Paired F (xs ++ xs') (ys ++ ys')
  | _, _, _, _, .nil, q => q
  | _, _, _, _, .cons p r, q => .cons p (paired_append r q)
theorem paired_get {α β : Type} {F : α → β → Prop} : ∀ {xs : List α} {ys : List β} {i : Nat} {y : β}, Paired F xs ys → ys[i]? = some y → ∃ x, xs[i]? = some x ∧ F x y
  | _, _, _, _, .nil, e => by simp at e
  | _, _, 0, _, .cons p _, e => by simp at e; subst e; exact ⟨_, rfl, p⟩
  | _, _, i + 1, y, .cons _ q, e => by
    obtain ⟨x, h1, h2⟩ := paired_get (i := i) (y := y) q (by simpa using e)
    exact ⟨x, by simpa using h1, h2⟩
structure Scr where
  signs : Str
  rooms : Int
  begins : List Mk
  steps : List Stp
  ends : List Mk
def ScV (K : PySem.W.Frag) (H : Hp) (s : Scr) (v : V) (pb ps pe : Addr) : Prop := ∃ a xb xs xe, v = .ref a ∧ SqT K H a [.str s.signs, .int s.rooms, .ref pb, .ref ps, .ref pe] ∧ SqL K H pb xb ∧ SqL K H ps xs ∧ SqL K H pe xe ∧
  Paired (MkV K H) s.begins xb ∧ Paired (StV K H) s.steps xs ∧ Paired (MkV K H) s.ends xe
theorem ScV.mono {K : PySem.W.Frag} {H H' : Hp} {s : Scr} {v : V} {pb ps pe : Addr} (g : Same H H') : ScV K H s v pb ps pe → ScV K H' s v pb ps pe
  | ⟨a, xb, xs, xe, e, h1, h2, h3, h4, h5, h6, h7⟩ => ⟨a, xb, xs, xe, e, Same.seqT g h1, g.seq h2, g.seq h3, g.seq h4, paired_mono (fun _ _ => MkV.mono (Same.grow g)) h5, paired_mono (fun _ _ => StV.mono (Same.grow g)) h6, paired_mono (fun _ _ => MkV.mono (Same.grow g)) h7⟩
/-! as deep data -/
def dMk (m : Mk) : D := .tup [.int m.1, .str m.2]
def dSt (t : Stp) : D := .tup [.int t.1, .str t.2.1, .str t.2.2.1, .int t.2.2.2]
def dScr (s : Scr) : D := .tup [.str s.signs, .int s.rooms, .lst (s.begins.map dMk), .lst (s.steps.map dSt), .lst (s.ends.map dMk)]
theorem rep_int {K : PySem.W.Frag} {H : Hp} (i : Int) : Rep K H (.int i) (.int i) := by unfold Rep; rfl
theorem rep_str {K : PySem.W.Frag} {H : Hp} (x : Str) : Rep K H (.str x) (.str x) := by unfold Rep; rfl
theorem rep_tup {K : PySem.W.Frag} {H : Hp} {a : Addr} {xs : List V} {ds : List D} (h : SqT K H a xs) (r : Reps K H ds xs) : Rep K H (.tup ds) (.ref a) := by unfold Rep; exact ⟨a, xs, rfl, h, r⟩
theorem rep_lst {K : PySem.W.Frag} {H : Hp} {a : Addr} {xs : List V} {ds : List D} (h : SqL K H a xs) (r : Reps K H ds xs) : Rep K H (.lst ds) (.ref a) := by unfold Rep; exact ⟨a, xs, rfl, h, r⟩
theorem MkV.rep {K : PySem.W.Frag} {H : Hp} {m : Mk} {v : V} : MkV K H m v → Rep K H (dMk m) v
  | ⟨_, e, h⟩ => by subst e; exact rep_tup h (.cons (rep_int _) (.cons (rep_str _) .nil))
theorem StV.rep {K : PySem.W.Frag} {H : Hp} {m : Stp} {v : V} : StV K H m v → Rep K H (dSt m) v
  | ⟨_, e, h⟩ => by subst e; exact rep_tup h (.cons (rep_int _) (.cons (rep_str _) (.cons (rep_str _) (.cons (rep_int _) .nil))))
theorem reps_of {K : PySem.W.Frag} {H : Hp} {α : Type} {F : α → V → Prop} {f : α → D} (h : ∀ a v, F a v → Rep K H (f a) v) : ∀ {xs : List α} {vs : List V}, Paired F xs vs → Reps K H (xs.map f) vs
  | _, _, .nil => .nil
  | _, _, .cons p q => .cons (h _ _ p) (reps_of h q)
theorem ScV.rep {K : PySem.W.Frag} {H : Hp} {s : Scr} {v : V} {pb ps pe : Addr} : ScV K H s v pb ps pe → Rep K H (dScr s) v
  | ⟨a, xb, xs, xe, e, h1, h2, h3, h4, h5, h6, h7⟩ => by
    subst e
    exact rep_tup h1 (.cons (rep_str _) (.cons (rep_int _) (.cons (rep_lst h2 (reps_of (f := dMk) (F := MkV K H) (fun _ _ h => MkV.rep h) h5)) (.cons (rep_lst h3 (reps_of (f := dSt) (F := StV K H) (fun _ _ h => StV.rep h) h6)) (.cons (rep_lst h4 (reps_of (f := dMk) (F := MkV K H) (fun _ _ h => MkV.rep h) h7)) .nil)))))
theorem deeps_map {α : Type} (f : α → D) (n : Nat) (h : ∀ a, deep (f a) ≤ n) : ∀ xs : List α, deeps (xs.map f) ≤ n
  | [] => by rw [List.map_nil, deeps]; exact Nat.zero_le _
  | x :: xs => by
    have h1 := h x
    have h2 := deeps_map f n h xs
    rw [List.map_cons, deeps]; omega
theorem deep_dMk (m : Mk) : deep (dMk m) ≤ 1 := by unfold dMk; simp [deep, deeps]
theorem deep_dSt (m : Stp) : deep (dSt m) ≤ 1 := by unfold dSt; simp [deep, deeps]
theorem deep_dScr (s : Scr) : deep (dScr s) ≤ 3 := by
  have h1 := deeps_map dMk 1 deep_dMk s.begins
  have h2 := deeps_map dSt 1 deep_dSt s.steps
  have h3 := deeps_map dMk 1 deep_dMk s.ends
  unfold dScr
  simp only [deep, deeps]
  omega
theorem eqD_dMk (a b : Mk) : eqD (dMk a) (dMk b) = decide (a = b) := by
  obtain ⟨i, x⟩ := a; obtain ⟨j, y⟩ := b
  unfold dMk
  simp only [eqD, eqDs, Bool.and_true]
  by_cases h1 : i = j <;> by_cases h2 : x = y <;> simp [h1, h2]
theorem eqD_dSt (a b : Stp) : eqD (dSt a) (dSt b) = decide (a = b) := by
  obtain ⟨i, x, z, k⟩ := a; obtain ⟨j, y, u, l⟩ := b
  unfold dSt
  simp only [eqD, eqDs, Bool.and_true]
  by_cases h1 : i = j <;> by_cases h2 : x = y <;> by_cases h3 : z = u <;> by_cases h4 : k = l <;> simp [h1, h2, h3, h4]
theorem any_mem {α : Type} [DecidableEq α] (f : α → D) (h : ∀ a b, eqD (f a) (f b) = decide (a = b)) (x : α) : ∀ xs : List α, ((xs.map f).any fun e => eqD e (f x)) = decide (x ∈ xs)
  | [] => by simp
  | y :: ys => by
    rw [List.map_cons, List.any_cons, any_mem f h x ys, h]
    by_cases c : y = x
    · simp [c]
    · simp [c, show ¬ x = y from fun q => c q.symm]
/-! ### the list's insert; a number of the module -/
section
variable {X : Cx}
theorem pe_globI {x : Str} {i : Int} {pos : Pos} (hg : Gl X x) (hm : ∃ t, X.mg x = some (.int i t)) (hd : (x == ("__debug__" : Str)) = false := by decide) : PE X (.Name x pos) (tC (.int i)) := by
  obtain ⟨t, hm⟩ := hm
  exact pe_glob hg hm ⟨t, rfl⟩ hd
end
/-! in a block: the fragment named outright -/
theorem kIx {X : Cx} {K : PySem.W.Frag} (r : PySem.W.Frag → R2) (h : IxR X (r X.K)) (e : X.K = K := by rfl) : IxR X (r K) := e ▸ h
theorem kOp {X : Cx} {K : PySem.W.Frag} {f : Value → Value → Sem Value} (r : PySem.W.Frag → R2) (h : OpR X f (r X.K)) (e : X.K = K := by rfl) : OpR X f (r K) := e ▸ h
def rLenS (K : PySem.W.Frag) : List V → Hp → VK → Prop := fun xs H Q => ∃ p ys, xs = [.ref p] ∧ (SqL K H p ys ∨ SqT K H p ys) ∧ Q (.int ys.length) H
theorem kLen {X : Cx} {K : PySem.W.Frag} (e : X.K = K := by rfl) : CallR X (.builtin "len") (rLenS K) := e ▸ call_len_seq
end L3

/-! Exceptions of own classes: raised, passing frames. -/
namespace L3
open PySem PySem.Spec PyProof.Rows L2
theorem ObjOk.there {P : Program} {w : World} {H : Hp} {h : Heap} : ∀ {a : Addr} {o : HO}, ObjOk P w H h a o → ∃ ob, h.get? a = some ob
  | _, .lst _, x => let ⟨_, _, _, _, e⟩ := x; ⟨_, e⟩
  | _, .tup _, x => let ⟨_, _, _, o, e, _⟩ := x; ⟨o, e⟩
  | _, .dK _, x => let ⟨_, _, _, _, o, _, _, e, _⟩ := x; ⟨o, e⟩
  | _, .dT _, x => let ⟨_, _, _, _, o, _, _, e, _⟩ := x; ⟨o, e⟩
  | _, .set _ _, x => let ⟨o, _, _, _, e, _⟩ := x; ⟨o, e⟩
  | _, .ins _ _ _, x => let ⟨_, _, _, e, _⟩ := x; ⟨_, e⟩
  | _, .own _, x => x
  | _, .xd _, x => let ⟨_, ⟨o, _, _, e, _⟩, _⟩ := x; ⟨o, e⟩
  | _, .met _ _, x => ⟨_, x⟩
  | _, .rng _ _, x => let ⟨_, _, _, e⟩ := x; ⟨_, e⟩
  | _, .frz o _, x => ⟨o, x.1⟩
  | _, .tbl _, x => ⟨_, x⟩
  | _, .ext _, x => x.2.1
structure Fly (P : Program) (w : World) (st : List Env) (H : Hp) (s : Shared) (x C : Addr) (H' : Hp) (s' : Shared) (B : Heap) : Prop where
  os : s'.os = s.os
  bare : AllBare s'.gens
  un : Un (frs st) [] H H' s.heap s'.heap
  hok : HOk P w H' s'.heap
  fl : ∃ t, Heap.FlyingW B st x (.ref C) (.ref t) s'.heap
  new : s.heap.get? x = none
  xf : H' x = none
  tr : ∀ b o, H' b ≠ none → s'.heap.get? b = some o → B.get? b = some o
  ol : ∀ b o, s.heap.get? b = some o → H b = none → b ∉ frs st → B.get? b = some o
  th : ∀ b o, s.heap.get? b = some o → b ∉ frs st → ∃ o', B.get? b = some o'
  ff : ∀ b ∈ frs st, H' b = none
def CX1 (P : Program) (w : World) : CXT := fun st H s E e s' => ∃ x C H' B, e = .ref x ∧ Fly P w st H s x C H' s' B ∧ E (.ref C) none H'
section
variable {P : Program} {w : World} {st : List Env} {H H' : Hp} {s s' : Shared} {x C : Addr} {B : Heap}
theorem Fly.turn (F : Fly P w st H s x C H' s' B) {h2 : Heap} (k : B.StaysIn h2) (u : s'.heap.UpToSlots h2) : Un (frs st) [] H H' s.heap h2 ∧ HOk P w H' h2 := by
  have slot : ∀ b ∈ frs st, ∀ o, s'.heap.get? b = some o → ∃ sl, h2.get? b = some { o with slots := sl } := fun b hb o q => by
    obtain ⟨t, fl⟩ := F.fl
    obtain ⟨_, o', e, d⟩ := fl.2.2.1.mem hb
    rw [q] at e; cases e
    exact u b o q d
  refine ⟨⟨fun b o q n hb _ => k b o (F.ol b o q n hb), fun b o q n hb hx => ?_, F.un.free, fun b o q hx => ?_, F.un.tups, F.un.frzs, F.un.tbls⟩, fun a o e => ?_⟩
  · obtain ⟨sl, e⟩ := F.un.slot b o q n hb hx
    obtain ⟨sl', e'⟩ := slot b hb _ e
    exact ⟨sl', e'⟩
  · by_cases hb : b ∈ frs st
    · obtain ⟨o', e⟩ := F.un.there b o q hx
      obtain ⟨sl, e'⟩ := slot b hb _ e
      exact ⟨_, e'⟩
    · obtain ⟨o', e⟩ := F.th b o q hb
      exact ⟨o', k b o' e⟩
  · refine (F.hok a o e).stay (fun b v hb q => ?_) (fun _ q => q) fun _ _ q => q
    refine k b v (F.tr b v ?_ q)
    rcases hb with rfl | hb
    · rw [e]; simp
    · rw [hb]; simp
end
section
variable {X : Cx} {pins : List (Addr × Obj)} {σ : L2.St} {H : Hp} {s : Shared}
theorem raise_fly {M : Model} {h2 : Heap} {x C : Addr} {vs : List Value} {Q : Unit → Shared → Prop} {E : Value → Shared → Prop} (I : Inv X pins σ H s) (hst : X.stack = X.env :: X.outer) (hfm : X.env.frame = some X.env.locals) (hex : X.ex = []) (hx : Heap.MadeExcOf s.heap h2 x (.ref C) vs)
    (q : ∀ h' B, Fly X.prog X.w X.outer X.H₀ X.s₀ x C H { s with heap := h' } B → Q () { s with heap := h' }) : wpAny M X.A (leaving X.env (.ref x)) Q E { s with heap := h2 } := by
  have hfr : X.A.frames = some (X.env :: X.outer) := by rw [← hst]; exact I.ok.frames
  have hstk := I.stack
  have inB : ∀ b o, s.heap.get? b = some o → b ∉ frs X.stack → (PySem.W.hideAll s.heap (frs X.stack)).get? b = some o := fun b o e n => PySem.W.hideAll_get _ e n
  have nst : ∀ b o, X.s₀.heap.get? b = some o → b ∉ X.fs → b ∉ frs X.stack := fun b o e n hb => by
    rcases List.mem_cons.mp (I.stkSub b hb) with z | z
    · exact absurd (Nat.lt_of_lt_of_le (Heap.lt_size e) I.ok.above) (by rw [z]; exact Nat.lt_irrefl _)
    · exact n z
  have noex : ∀ b : Addr, b ∉ X.ex := fun b => by rw [hex]; simp
  have fsub : ∀ b ∈ X.fs, b ∈ frs X.stack := fun b hb => by
    rw [hst]; unfold frs; rw [List.filterMap_cons, hfm]; exact List.mem_cons_of_mem _ hb
  have hff := PySem.W.funFrames_hide (as := frs X.stack) hstk (fun env he a ha => List.mem_filterMap.mpr ⟨env, he, ha⟩)
  rw [hst] at hff
  refine wpAny_leaves_madeW (base := PySem.W.hideAll s.heap (frs (X.env :: X.outer))) (h := s.heap) (s := { s with heap := h2 }) (L := X.env.locals) hfr hfm (fun b o e => PySem.W.of_hideAll _ e) hff hx fun h' t f1 f2 f3 f4 => ?_
  rw [← hst] at f1 f3
  have keepB : ∀ b o, s.heap.get? b = some o → b ∉ frs X.stack → h'.get? b = some o := fun b o e n => f1.1 b o (inB b o e n)
  have slot : ∀ b ∈ frs X.stack, ∀ o, s.heap.get? b = some o → ∃ sl, h'.get? b = some { o with slots := sl } := fun b hb o e => by
    obtain ⟨_, o', e', d⟩ := hstk.mem hb
    rw [e] at e'; cases e'
    exact f4 b o (hx.keeps b o e) d
  have xnew : X.s₀.heap.get? x = none := by
    cases e : X.s₀.heap.get? x with
    | none => rfl
    | some o =>
      obtain ⟨o', e'⟩ := I.base.there x o e (noex x)
      rw [hx.new] at e'; cases e'
  refine q h' _ ⟨I.os, I.bare, ⟨fun b o e n hb _ => ?_, fun b o e n hb _ => ?_, fun b o e n _ => I.base.free b o e n (noex b), fun b o e _ => ?_, I.base.tups, I.base.frzs, I.base.tbls⟩, fun a u e => ?_, ⟨t, f1⟩, xnew, ?_, fun b o hb e => ?_, fun b o e n hb => ?_, fun b o e hb => ?_, fun b hb => ?_⟩
  · exact keepB b o (I.base.keep b o e n hb (noex b)) (nst b o e hb)
  · obtain ⟨sl, e1⟩ := I.base.slot b o e n hb (noex b)
    obtain ⟨sl', e2⟩ := slot b (fsub b hb) _ e1
    exact ⟨sl', e2⟩
  · obtain ⟨o', e1⟩ := I.base.there b o e (noex b)
    by_cases hb : b ∈ frs X.stack
    · obtain ⟨sl, e2⟩ := slot b hb _ e1
      exact ⟨_, e2⟩
    · exact ⟨o', keepB b o' e1 hb⟩
  · refine (I.hok a u e).stay (fun b v hb q => keepB b v q fun z => ?_) (fun _ q => q) fun _ _ q => q
    have := I.stkFree b z
    rcases hb with rfl | hb
    · rw [e] at this; cases this
    · rw [hb] at this; cases this
  · cases e : H x with
    | none => rfl
    | some u =>
      obtain ⟨o, e'⟩ := ObjOk.there (I.hok x u e)
      rw [hx.new] at e'; cases e'
  · cases e' : H b with
    | none => exact absurd e' hb
    | some u =>
      obtain ⟨o1, e1⟩ := ObjOk.there (I.hok b u e')
      have nb : b ∉ frs X.stack := fun z => by have := I.stkFree b z; rw [e'] at this; cases this
      have e2 := keepB b o1 e1 nb
      have e3 : h'.get? b = some o := e
      rw [e3] at e2; cases e2
      exact inB b o e1 nb
  · exact inB b o (I.base.keep b o e n hb (noex b)) (nst b o e hb)
  · obtain ⟨o', e1⟩ := I.base.there b o e (noex b)
    exact ⟨o', inB b o' e1 (nst b o e hb)⟩
  · exact I.stkFree b (fsub b hb)
theorem pass_fly {M : Model} {s2 : Shared} {H2 : Hp} {x C : Addr} {B : Heap} {Q : Unit → Shared → Prop} {E : Value → Shared → Prop} (I : Inv X pins σ H s) (hst : X.stack = X.env :: X.outer) (hfm : X.env.frame = some X.env.locals) (hex : X.ex = []) (F : Fly X.prog X.w X.stack H s x C H2 s2 B)
    (q : ∀ h', Fly X.prog X.w X.outer X.H₀ X.s₀ x C H2 { s2 with heap := h' } B → Q () { s2 with heap := h' }) : wpAny M X.A (leaving X.env (.ref x)) Q E s2 := by
  have hfr : X.A.frames = some (X.env :: X.outer) := by rw [← hst]; exact I.ok.frames
  obtain ⟨t, fl⟩ := F.fl
  have nst : ∀ b o, X.s₀.heap.get? b = some o → b ∉ X.fs → b ∉ frs X.stack := fun b o e n hb => by
    rcases List.mem_cons.mp (I.stkSub b hb) with z | z
    · exact absurd (Nat.lt_of_lt_of_le (Heap.lt_size e) I.ok.above) (by rw [z]; exact Nat.lt_irrefl _)
    · exact n z
  have noex : ∀ b : Addr, b ∉ X.ex := fun b => by rw [hex]; simp
  have fsub : ∀ b ∈ X.fs, b ∈ frs X.stack := fun b hb => by
    rw [hst]; unfold frs; rw [List.filterMap_cons, hfm]; exact List.mem_cons_of_mem _ hb
  have fl' := fl
  rw [hst] at fl'
  refine wpAny_leaves_onW hfr hfm fl' fun h' f1 f2 => ?_
  obtain ⟨un, hok⟩ := F.turn f1.1 f2
  have xnew : X.s₀.heap.get? x = none := by
    cases e : X.s₀.heap.get? x with
    | none => rfl
    | some o =>
      obtain ⟨o', e'⟩ := I.base.there x o e (noex x)
      rw [F.new] at e'; cases e'
  refine q h' ⟨?_, F.bare, ⟨fun b o e n hb _ => ?_, fun b o e n hb _ => ?_, fun b o e n _ => ?_, fun b o e _ => ?_, fun b xs e => un.tups b xs (I.base.tups b xs e), fun b o u e => un.frzs b o u (I.base.frzs b o u e), fun b ps e => ?_⟩, hok, ⟨t, f1⟩, xnew, F.xf, fun b o hb e => ?_, fun b o e n hb => ?_, fun b o e hb => ?_, fun b hb => F.ff b (fsub b hb)⟩
  · exact F.os.trans I.os
  · exact un.keep b o (I.base.keep b o e n hb (noex b)) (I.base.free b o e n (noex b)) (nst b o e hb) (by simp)
  · obtain ⟨sl, e1⟩ := I.base.slot b o e n hb (noex b)
    obtain ⟨sl', e2⟩ := un.slot b _ e1 (I.base.free b o e n (noex b)) (fsub b hb) (by simp)
    exact ⟨sl', e2⟩
  · obtain ⟨o', e1⟩ := I.base.there b o e (noex b)
    exact un.free b o' e1 (I.base.free b o e n (noex b)) (by simp)
  · obtain ⟨o', e1⟩ := I.base.there b o e (noex b)
    exact un.there b o' e1 (by simp)
  · obtain ⟨m1, e1⟩ := I.base.tbls b ps e
    obtain ⟨m2, e2⟩ := un.tbls b _ e1
    exact ⟨m1 ++ m2, by rw [e2, Array.append_assoc]⟩
  · cases e' : H2 b with
    | none => exact absurd e' hb
    | some u =>
      obtain ⟨o1, e1⟩ := ObjOk.there (F.hok b u e')
      have e2 := F.tr b o1 hb e1
      have e3 := f1.1 b o1 e2
      have e4 : h'.get? b = some o := e
      rw [e4] at e3; cases e3
      exact e2
  · exact F.ol b o (I.base.keep b o e n hb (noex b)) (I.base.free b o e n (noex b)) (nst b o e hb)
  · obtain ⟨o', e1⟩ := I.base.there b o e (noex b)
    exact F.th b o' e1 (nst b o e hb)
end
end L3

/-! An exception object of an own class: its class, isinstance; a clause that takes it. -/
namespace L3
open PySem PySem.Spec PyProof.Rows L2 PySem.W PySem.Builtin PySem.Builtin.ObjectAttr PySem.Builtin.Getset_descriptor PySem.Calls
def XAt (x C : Addr) : Heap → Prop := fun h => ∃ o, h.get? x = some o ∧ o.cls = .ref C
structure XCls (K : Frag) (C : Addr) : Prop where
  ga : findIn K (.ref C) "__getattribute__" = some (some (.builtin "BaseException.__getattribute__"))
  gh : findIn K (.ref C) "__getattr__" = some none
  bs : mroIn K C (.type "BaseException") = some true
  cl : (clsIn K C).isSome = true
  ha : findIn K (.ref C) "__class__" = some (some (.builtin "object.__class__"))
  hn : specialIn K (.builtin "object.__class__") "__get__" = some (some (.builtin "getset_descriptor.__get__"))
  htk : takesIn K (.builtin "object.__class__") = some true
  hm : mroIn K C (.type "object") = some true
section
variable {prog : Program} {w : World} {A : Around} {E : Value → Shared → Prop} {s : Shared} {K : Frag} {x C : Addr}
theorem x_type {M : Model} {h : Heap} (I : XAt x C h) : Looks M h (typeOf (.ref x)) (.ref C) := by
  obtain ⟨o, e, c⟩ := I
  exact c ▸ (Looks.ld e).andThen .now
theorem x_find {M : Model} {h : Heap} (X : K.In h) (c : XCls K C) : Looks M h (find (.ref x) (.ref C) "__class__") (.bind (.builtin "getset_descriptor.__get__") (.builtin "object.__class__")) := by
  have l1 := looks_findIn (M := M) X c.ha
  have l2 : Looks M h (getOf (some (.builtin "object.__class__"))) (some (.builtin "getset_descriptor.__get__")) := looks_specialIn X c.hn
  have l3 := looks_takesIn (M := M) X c.htk
  refine l1.andThen (l2.andThen ?_)
  exact (show Looks M h (dataDescriptor? (some (.builtin "object.__class__")) (some (.builtin "getset_descriptor.__get__"))) (some (.builtin "getset_descriptor.__get__", .builtin "object.__class__")) from l3.andThen .now).andThen (Looks.tag .now)
theorem x_get {R : Result → Shared → Prop} {tp : Value} (X : K.In s.heap) (I : XAt x C s.heap) (hm : mroIn K C (.type "object") = some true) (h : R (.ok (.ret (.ref C))) s) :
    codeAny (model prog w) A (.call (.builtin "getset_descriptor.__get__") ⟨[.builtin "object.__class__", .ref x, tp], []⟩) R s := by
  obtain ⟨h0, g0, d0, t0, os0⟩ := s
  have l0 := x_type (M := model prog w) I
  have l1 := looks_mroIn (M := model prog w) X hm
  refine codeAny_call_builtin KF.slot_gs.plain KF.entry_gs (KF.slot_gs.check _ _ _ _ _ _ _ _ KF.type_class (KF.args_gs _ _ _) ?_)
  unfold Builtin.«getset_descriptor.__get__» descrGet
  rw [dga_obj]
  refine wpAny_bind (wpAny_pure ?_)
  unfold descrGetter descrCheckInstance descrNameAndClass isInstance
  simp only [KF.owner_class]
  repeat lk
  refine ⟨Code.quiet_builtin _ (by decide +kernel), codeAny_builtin KF.entry_class ?_⟩
  unfold Builtin.«object.__class__» shownTypeOf
  repeat lk
  exact h
theorem bx_bind (v : Value) : bindSpecial (.builtin "BaseException.__getattribute__") v = pure (.builtin "BaseException.__getattribute__", [v]) := by kernel_rfl
theorem x_entry {tk : Tok} {R : Result → Shared → Prop} (X : K.In s.heap) (I : XAt x C s.heap) (c : XCls K C) (h : R (.ok (.ret (.ref C))) s) :
    codeAny (model prog w) A (.call (.builtin "BaseException.__getattribute__") ⟨[.ref x, .str "__class__" tk], []⟩) R s := by
  obtain ⟨h0, g0, d0, t0, os0⟩ := s
  have l0 := x_type (M := model prog w) I
  have l1 := x_find (M := model prog w) (x := x) X c
  have l2 := looks_mroIn (M := model prog w) X c.bs
  have hk : builtinKind "BaseException.__getattribute__" = some .slot := by decide +kernel
  have hsp : splitId "BaseException.__getattribute__" = some ("BaseException", "__getattribute__") := by decide +kernel
  have ha := F.args_bexc_ga (.ref x) (.str "__class__" tk)
  refine codeAny_call_builtin (by decide +kernel) F.entry_bexc_ga ?_
  simp only [checkBuiltinCall, hk, hsp]
  unfold isInstance
  repeat (first | refine wpAny_run (h := none) (x_get (A := A.in1) (s := ⟨h0, g0, d0, t0, os0⟩) X I c.hm ?_) | lk)
  exact h
theorem x_class {Q : Option Value → Shared → Prop} (X : K.In s.heap) (I : XAt x C s.heap) (c : XCls K C) (h : Q (some (.ref C)) { s with toks := s.toks + 1 }) : wpAny (model prog w) A (getAttr? (.ref x) "__class__") Q E s := by
  obtain ⟨h0, g0, d0, t0, os0⟩ := s
  have l0 := x_type (M := model prog w) I
  have l1 := looks_findIn (M := model prog w) X c.ga
  have l2 := looks_findIn (M := model prog w) X c.gh
  unfold getAttr? getAttrBy? getAttrBy
  refine wpAny_bind (wpAny_mkText (wpAny_bind (wpAny_attempt (wpAny_holding (wpAny_bind (l0.at (wpAny_bind (l1.at ?_))))))))
  show wpAny _ _ (getAttrByItsOwn _ _ _ _ _ _) _ _ _
  unfold getAttrByItsOwn hookBefore
  refine wpAny_bind (l2.at ?_)
  show wpAny _ _ (((holding [] (boundAndCalled _ _ _)).attempt) >>= _) _ _ _
  unfold boundAndCalled
  rw [bx_bind]
  refine wpAny_bind (wpAny_attempt (wpAny_holding (wpAny_bind (wpAny_pure ?_))))
  exact wpAny_call (x_entry (s := ⟨h0, g0, d0, t0 + 1, os0⟩) X I c (wpAny_pure (wpAny_pure h)))
theorem kitx_exc (c : XCls K C) : KitX K (.ref x) (.ref C) (XAt x C) where
  ty := fun _ _ _ I => x_type I
  it := fun _ _ X _ => by
    obtain ⟨cd, hc⟩ := Option.isSome_iff_exists.mp c.cl
    unfold clsIn at hc
    split at hc
    · rename_i ho
      intro A' Q' E' s' k q
      unfold isType loadHead
      exact wpAny_bind (wpAny_loadPart (k _ _ (X _ _ ho)) (wpAny_pure q))
    · cases hc
  ne := fun h tp dd its n sl X htp => by
    obtain ⟨cd, hc⟩ := Option.isSome_iff_exists.mp c.cl
    refine Bool.eq_false_iff.mpr fun q => ?_
    obtain rfl : C = tp := Value.ref.inj (beq_iff_eq.mp q)
    unfold clsIn at hc
    split at hc
    · rename_i ho
      cases (X _ _ ho).symm.trans htp
    · cases hc
  ca := fun X I k => x_class X I c k
theorem x_matches {S : Addr} {Q : Bool → Shared → Prop} (X : K.In s.heap) (I : XAt x C s.heap) (ht : typeIn K (.ref S) = some (.type "type")) (hcS : (clsIn K S).isSome = true) (hb : mroIn K S (.type "BaseException") = some true) (hs : mroIn K C (.ref S) = some true) (q : Q true s) :
    wpAny (model prog w) A (excMatches (.ref x) (.ref S)) Q E s := by
  obtain ⟨h0, g0, d0, t0, os0⟩ := s
  have l0 := x_type (M := model prog w) I
  have l1 := looks_typeIn (M := model prog w) X ht
  have l2 := looks_mroIn (M := model prog w) X hb
  have l3 := looks_mroIn (M := model prog w) X hs
  have l4 : Looks (model prog w) h0 (isType (.ref S)) true := by
    obtain ⟨cd, hc⟩ := Option.isSome_iff_exists.mp hcS
    unfold clsIn at hc
    split at hc
    · rename_i ho
      intro A' Q' E' s' k q
      unfold isType loadHead
      exact wpAny_bind (wpAny_loadPart (k _ _ (X _ _ ho)) (wpAny_pure q))
    · cases hc
  have l5 : Looks (model prog w) h0 (isSubtype (.type "type") (.type "tuple")) false := Looks.of_pure (by rw [isSubtype_type]; kernel_rfl)
  unfold excMatches isInstance isExcClass
  repeat lk
  exact q
end
end L3

/-! raise C(..), calls that may raise, try with one call, isinstance of what was caught. -/
namespace L3
open PySem PySem.Spec PyProof.Rows L2
abbrev bmV : List Value := [.type "ValueError", .type "Exception", .type "BaseException", .type "object"]
theorem own_obj {K : PySem.W.Frag} {h : Heap} {C : Addr} {bB : List Value} {nid : String} (X : K.In h) (e : PySem.W.excIn K C bB nid = true) :
    ∃ bm N nm q bs hd sn sub ab col dd k0 k1 k2 k3 k5 mN, h.get? C = some (excClassObj nm q C N bs bm hd sn sub ab col dd k0 k1 k2 k3 k5 nid) ∧ h.Ns N mN ∧ mN "__init__" = none ∧ OwnTail h bB bm := by
  unfold PySem.W.excIn at e
  split at e
  · rename_i dd cd slots hl
    split at e
    · rename_i C1 bm k0 k1 k2 k3 n1 k5 hmro hslots
      simp only [Bool.and_eq_true, beq_iff_eq, Bool.not_eq_true'] at e
      obtain ⟨⟨⟨⟨⟨e1, e2⟩, e3⟩, e4⟩, e5⟩, e6⟩ := e
      subst e1 e2
      obtain ⟨a1, a2, a3, a4, a5, a6, a7, a8, a9, a10, a11⟩ := cd
      dsimp only at hmro e3 e5 e6
      subst hmro e3
      have es : slots = #[k0, k1, k2, k3, some (.builtin n1), k5] := by
        obtain ⟨l⟩ := slots
        simp only at hslots
        rw [hslots]
      subst es
      exact ⟨bm, a4, a1, a5, a2, a6, a7, a8, a9, a10, dd, k0, k1, k2, k3, k5, _, X _ _ hl, .of_isNs (PySem.W.isNs_of_in X e5), PySem.W.nsMap_none_of_in X e5 e6, PySem.W.tail_of_in X e4⟩
    · cases e
  · cases e
structure OwnX (K : PySem.W.Frag) (mg : Str → Option Value) (x : Str) (C : Addr) : Prop where
  nm : mg x = some (.ref C)
  ex : PySem.W.excIn K C bmV "ValueError.__new__" = true
section
variable {X : Cx}
def Raises (X : Cx) (E : XK) : Prop := ∀ (pins : List (Addr × Obj)) (σ : L2.St) (H : Hp) (s : Shared) (h2 : Heap) (x C : Addr) (vs : List Value), Inv X pins σ H s → Heap.MadeExcOf s.heap h2 x (.ref C) vs → E (.ref C) none H → X.xe (.ref x) { s with heap := h2 }
def tRaise (C : Addr) (E : XK) (te : TE) : TS := fun _ σ H => te σ H fun v H1 => [v].length = 1 ∧ E (.ref C) none H1
theorem ps_raise {x : Str} {C : Addr} {E : XK} {e : Expr} {te : TE} {np cpos pos : Pos} (O : OwnX X.K X.mg x C) (hc : X.calm = true) (hg : Gl X x) (hR : Raises X E) (he : PE X e te) (hd : (x == ("__debug__" : Str)) = false := by decide)
    (hs : starEach [e] X.env = [(false, eval e X.env)] := by rfl) (hpl : (backTo cpos (starEach [e] X.env)).any (·.1) = false := by rfl) : PS X (.Raise (some (.Call (.Name x np) [e] [] cpos)) none pos) (tRaise C E te) := by
  intro pins s σ H D I h
  obtain ⟨bm, N, nm, q, bs, hdct, sn, sub, ab, col, dd, k0, k1, k2, k3, k5, mN, hC, hN, hni, T⟩ := own_obj (h := X.base) I.ok.mod.kin O.ex
  have FV := PySem.F.excBase_ValueError
  refine wpAny_Raise_call_subU (C := C) (nm := nm) (q := q) (N := N) (bs := bs) (bm := bm) (hdct := hdct) (sn := sn) (sub := sub) (ab := ab) (col := col) (dd := dd) (k0 := k0) (k1 := k1) (k2 := k2) (k3 := k3) (k5 := k5) (mN := mN)
    FV (by decide) FV (T.hasType FV.hasBase) (I.ok.hd hc) hpl hni (ld_glob I hg O.nm ⟨rfl, ?_⟩ hd)
  have pa : PA X [e] (tCons te tNil) := pa_cons he pa_nil hs
  rw [hs]
  refine Calls.evalArgs_plain ?_
  have run := pa cpos pins s σ H (fun ws H1 => ws.length = 1 ∧ E (.ref C) none H1) I h
  rw [hs] at run
  refine wpAny_mono run (fun vs s2 ⟨ws, H2, I2, rv, hw, hE⟩ => ?_) fun _ _ y => y
  have hl : vs.length ≤ sizeLine := by
    rw [← rv.length, hw]; decide
  exact ⟨rfl, hl, I2.bk _ _ hC, hN.keeps I2.bk, T.keeps I2.bk, fun h' x0 hm => hR pins σ H2 s2 h' x0 C vs I2 hm hE⟩
/-! ### an own def that may raise -/
def Cal1 (P : Program) (w : World) (K : PySem.W.Frag) (mg : Str → Option Value) (base : Heap) (x : Str) (ps : List Str) (k : Nat) (sp : Sp) : Prop :=
  ∃ f fd, FnOk P w K mg base (CX1 P w) k f fd ps sp ∧ Binds K fd ps [] ∧ PySem.W.keepIn K (.ref f) = true ∧ mg x = some (.ref f)
def tFn1 (sp : Sp) (E : XK) (t : TA) : TE := fun σ H Q => t σ H fun vs H1 => sp vs H1 Q E
theorem pe_fn1 {x : Str} {ps : List Str} {k k' : Nat} {sp : Sp} {E : XK} {p pos : Pos} {e : Expr} {es : List Expr} {t : TA} (C : Cal1 X.prog X.w X.K X.mg X.base x ps k sp) (hr : Room k' X.A) (hk : k ≤ k') (hg : Gl X x) (hx : Passes (CX1 X.prog X.w) X E)
    (ha : PA X (e :: es) t) (hdb : (x == ("__debug__" : Str)) = false := by decide) (he : starEach (e :: es) X.env = (false, eval e X.env) :: starEach es X.env := by rfl) (hpl : (backTo pos (starEach es X.env)).any (·.1) = false := by rfl) :
    PE X (.Call (.Name x p) (e :: es) [] pos) (tFn1 sp E t) := by
  obtain ⟨f, fd, F, b, kp, hm⟩ := C
  intro pins s σ H Q I h
  refine wpAny_Call_Name_kw (ld_glob I hg hm ?_ hdb)
  refine PySem.W.callWith_K (h₀ := X.base) I.ok.mod.kin kp (thn (ha pos pins s σ H _ I h) fun us s1 ⟨vs, H1, I1, r, q⟩ => ⟨I1.kIn, ?_⟩) he hpl
  exact run_fn (dvs := []) F (hr.mono hk) b .nil hx I1 r (by rw [List.append_nil]; exact q)
end
section
variable {P : Program} {w : World} {K : PySem.W.Frag} {mg : Str → Option Value} {base : Heap} {N : List Str} {qual : Str} {scope : Scope} {f : Addr} {cd : Value} {A : Around} {outer : List Env} {s : Shared} {H : Hp} {E : XK}
theorem pass_on : Passes (CX1 P w) (cxOf (CX1 P w) P w K mg base N qual scope f cd A outer s H E) E := by
  intro pins σ H1 s1 e s2 I h
  obtain ⟨x, C, H2, B, rfl, F, hE⟩ := h
  show wpAny (model P w) _ (leaving _ (.ref x)) _ _ s2
  exact pass_fly I rfl rfl rfl F fun h' F' => ⟨x, C, H2, B, rfl, F', hE⟩
theorem raise_on : Raises (cxOf (CX1 P w) P w K mg base N qual scope f cd A outer s H E) E := by
  intro pins σ H1 s1 h2 x C vs I hm hE
  show wpAny (model P w) _ (leaving _ (.ref x)) _ _ _
  exact raise_fly I rfl rfl rfl hm fun h' B F' => ⟨x, C, H1, B, rfl, F', hE⟩
theorem Fun.ok1 {x : Str} {st : Stmt} {fd : FuncData} {ps : List Str} {k : Nat} {sp : Sp} (F : Fun K x qual st f fd) (S : FnScope N ps (defScope st)) (len : ∀ vs H Q E, sp vs H Q E → vs.length = ps.length)
    (hbody : ∀ (cdv : Value) (A : Around) (outer : List Env) (s : Shared) (H : Hp) (vs : List V) (Q : VK) (E : XK), Room k (A.deeper (envOfC qual (defScope st) s.heap.objs.size f cdv)) → sp vs H Q E →
      ∃ t, PSs (cxOf (CX1 P w) P w K mg base N qual (defScope st) f cdv A outer s H E) (defBody st) t ∧ t { nx := fun _ H' => Q .non H', rt := Q } (start N vs) H) : FnOk P w K mg base (CX1 P w) (k + 1) f fd ps sp := by
  obtain ⟨oc, od, kV, doc, pm, an, cdv, ct, osl, rfl, lk, hcd⟩ := F.ex
  exact fn_of lk hcd S len fun A outer s H vs Q E hr hsp => hbody cdv A outer s H vs Q E hr hsp
end
/-! ### what was caught -/
def excIs (x C : Addr) : Heap → Prop := XAt x C
abbrev Exc (x C : Addr) : HO := .ext (excIs x C)
theorem exc_ok {P : Program} {w : World} {H : Hp} {h : Heap} {x C : Addr} (e : XAt x C h) : ObjOk P w H h x (Exc x C) :=
  ⟨e, let ⟨o, z, _⟩ := e; ⟨o, z⟩, fun h1 h2 ⟨o, z, c⟩ k => ⟨o, k o z, c⟩⟩
section
variable {X : Cx}
def clsV : V → Option Value
  | .ref a => some (.ref a)
  | .ty T => some (.type T)
  | _ => none
theorem call_isinstX : CallR X (.builtin "isinstance") (fun xs H Q => ∃ x C y u b, xs = [.ref x, y] ∧ H x = some (Exc x C) ∧ XCls X.K C ∧ clsV y = some u ∧ PySem.W.kitOne X.K (.ref C) u = some b ∧ Q (.bl b) H) := by
  intro pins s σ H xs us Q I r h
  obtain ⟨x, C, y, u, b, rfl, hx, c, hu, e, q⟩ := h
  obtain ⟨v, w', rfl, rx, ry⟩ := vals2 r
  cases rx
  have ew : w' = u := by
    cases y <;> simp only [clsV] at hu <;> first | cases hu | skip
    · cases ry; rfl
    · cases ry; rfl
  subst ew
  have px : XAt x C s.heap := (show ObjOk X.prog X.w H s.heap x (Exc x C) from I.hok x _ hx).1
  exact PySem.W.kia_one (kitx_exc c) I.kIn px e (fun z => nomatch z) fun tk => ⟨.bl b, H, I.tok _, rfl, q⟩
theorem pe_globC {x : Str} {C : Addr} {pos : Pos} (hg : Gl X x) (hm : X.mg x = some (.ref C)) (hd : (x == ("__debug__" : Str)) = false := by decide) : PE X (.Name x pos) (tC (.ref C)) := pe_glob hg hm rfl hd
end
end L3

/-! try: y = f(..) / except S as n: z = n -/
namespace L3
open PySem PySem.Spec PyProof.Rows L2
abbrev sui (X : Cx) (v : Value) : Cx := { X with A := X.A.mark (some v), calm := false, xe := fun _ _ => False }
section
variable {X : Cx} {pins : List (Addr × Obj)} {σ : L2.St} {H : Hp} {s : Shared}
theorem Inv.suite (I : Inv X pins σ H s) (v : Value) : Inv (sui X v) pins σ H s :=
  ⟨⟨I.ok.mod, I.ok.kind, I.ok.glob, I.ok.blt, I.ok.above, I.ok.inj, I.ok.has, I.ok.cab, (fun h => nomatch h), I.ok.frames, I.ok.stk, I.ok.exf, I.ok.bs, I.ok.bsz, I.ok.noex, I.ok.exfs, I.ok.funs, I.ok.frf⟩, I.os, I.bare, I.base, I.loc, I.cell, I.free, I.freeC, I.pin, I.hok, I.len⟩
theorem Inv.unsuite {v : Value} (ok : X.Ok) (I : Inv (sui X v) pins σ H s) : Inv X pins σ H s :=
  ⟨ok, I.os, I.bare, I.base, I.loc, I.cell, I.free, I.freeC, I.pin, I.hok, I.len⟩
theorem Inv.trackX {x C : Addr} (I : Inv X pins σ H s) (hx : H x = none) (c : XAt x C s.heap) (h0 : X.s₀.heap.get? x = none) (h1 : x ≠ X.env.locals) (h2 : ∀ y a, X.env.cells.lookup y = some a → a ≠ x) (h3 : ∀ p ∈ X.pn ++ pins, p.1 ≠ x) : Inv X pins σ (upd H x (Exc x C)) s := by
  have old : ∀ b u, H b = some u → upd H x (Exc x C) b = some u := fun b u e => by rw [upd_ne (ne_of_none e hx)]; exact e
  refine ⟨I.ok, I.os, I.bare, ⟨I.base.keep, I.base.slot, fun b o e n hb => ?_, I.base.there, fun b xs e => old b _ (I.base.tups b xs e), fun b o u e => old b _ (I.base.frzs b o u e), fun b ps e => ?_⟩, I.loc, I.cell, by rw [upd_ne h1.symm]; exact I.free, fun y a e => by rw [upd_ne (h2 y a e)]; exact I.freeC y a e, fun p hp => ?_, fun b u e => ?_, I.len⟩
  · rw [upd_ne (fun z => by subst z; rw [h0] at e; cases e)]
    exact I.base.free b o e n hb
  · obtain ⟨m, e1⟩ := I.base.tbls b ps e
    exact ⟨m, old b _ e1⟩
  · obtain ⟨a1, a2, a3⟩ := I.pin p hp
    exact ⟨a1, by rw [upd_ne (h3 p hp)]; exact a2, a3⟩
  · by_cases hb : b = x
    · subst hb
      rw [upd_same] at e; cases e
      exact exc_ok c
    · rw [upd_ne hb] at e
      exact (I.hok b u e).stay (fun _ _ _ q => q) (fun a q => old a _ q) fun a xs q => old a _ q
theorem goes_ok {M : Model} {A : Around} {E : Value → Shared → Prop} {i : Nat} {n : Str} {pos : Pos} {Q : Unit → Shared → Prop} (I : Inv X pins σ H s) (hN : X.N.Nodup) (hi : X.N[i]? = some n) (hk : X.env.scope.names.lookup n = some .local)
    (h : ∀ s', Inv X pins (σ.set i none) H s' → Q () s') : wpAny M A (do bindName X.env n .none; unbindBehindTheSuite X.env n pos) Q E s := by
  obtain ⟨m, hn, hl⟩ := id I.loc
  have hcls : (X.env.scope.kind == .class || (X.env.scope.kind == .module && X.env.locals != X.env.globals)) = false := by rw [I.ok.kind]; rfl
  have hiσ : i < σ.length := by rw [I.len]; exact (List.getElem?_eq_some_iff.mp hi).1
  have cne := I.cne
  obtain ⟨oL, _, _, hoL, _⟩ := id hn
  refine wpAny_nameGoes_keeps hk hn hcls fun h' v hn' hs => h _ ?_
  have bel : ∀ {b : Addr} {o : Obj}, X.s₀.heap.get? b = some o → b ≠ X.env.locals := fun e => Nat.ne_of_lt (Nat.lt_of_lt_of_le (Heap.lt_size e) I.ok.above)
  refine ⟨I.ok, I.os, I.bare, ⟨fun b o e n hb hx => (hs.2 b (bel e)).trans (I.base.keep b o e n hb hx), fun b o e n hb hx => ?_, I.base.free, fun b o e hx => ?_, I.base.tups, I.base.frzs, I.base.tbls⟩, ⟨_, hn', fun j y v' e1 e2 e3 => ?_⟩, fun y c e => ?_, I.free, I.freeC, fun p hp => ?_, fun b ob e => ?_, by simpa using I.len⟩
  · obtain ⟨sl, e1⟩ := I.base.slot b o e n hb hx
    exact ⟨sl, (hs.2 b (bel e)).trans e1⟩
  · obtain ⟨o', e1⟩ := I.base.there b o e hx
    exact ⟨o', (hs.2 b (bel e)).trans e1⟩
  · by_cases hj : j = i
    · subst hj
      rw [List.getElem?_set_self hiσ] at e2
      cases e2
    · rw [List.getElem?_set_ne (Ne.symm hj)] at e2
      obtain ⟨u', r', q⟩ := hl j y v' e1 e2 e3
      refine ⟨u', r', ?_⟩
      rcases q with ⟨k, e⟩ | ⟨k, c, e, z⟩
      · refine .inl ⟨k, ?_⟩
        have : y ≠ n := fun e => hj (nodup_ix hN e1 (e ▸ hi))
        simp [this, e]
      · exact .inr ⟨k, c, e, z.sameBut hs (cne y c e)⟩
  · obtain ⟨w', z⟩ := I.cell y c e
    exact ⟨w', z.sameBut hs (cne y c e)⟩
  · obtain ⟨e, n, ne, nf, d⟩ := I.pin p hp
    exact ⟨(hs.2 p.1 ne).trans e, n, ne, nf, d⟩
  · refine (I.hok b ob e).stay (fun c w' hc q => (hs.2 c ?_).trans q) (fun _ q => q) fun _ _ q => q
    rintro rfl
    rcases hc with rfl | hc
    · rw [I.free] at e; cases e
    · rw [I.free] at hc; cases hc
structure Clause (K : PySem.W.Frag) (mg : Str → Option Value) (x : Str) (S : Addr) : Prop where
  nm : mg x = some (.ref S)
  ty : PySem.W.typeIn K (.ref S) = some (.type "type")
  cl : (PySem.W.clsIn K S).isSome = true
  bs : PySem.W.mroIn K S (.type "BaseException") = some true
end
end L3

/-! try: f(..) as a statement of its own, except C as n: z = n. -/
namespace L3
open PySem PySem.Spec PyProof.Rows L2
section
variable {X : Cx} {pins : List (Addr × Obj)} {σ : L2.St} {H : Hp} {s : Shared}
end
end L3

/-! a try whose block chooses between three calls, each a statement of its own. -/
namespace L3
open PySem PySem.Spec PyProof.Rows L2 PySem.W
section
variable {X : Cx}
end
end L3
namespace L3
open PySem PySem.Spec PyProof.Rows L2
end L3
namespace L3
open PySem PySem.Spec PyProof.Rows L2
theorem pe_or {X : Cx} {e : Expr} {t1 t2 : TE} (h1 : PE X e t1) (h2 : PE X e t2) : PE X e (fun σ H Q => t1 σ H Q ∨ t2 σ H Q) := fun pins s σ H Q I h => h.elim (h1 pins s σ H Q I) (h2 pins s σ H Q I)
end L3

/-! a try whose block chooses between two calls, with two clauses, each of which sets a text and keeps the error. -/
namespace L3
open PySem PySem.Spec PyProof.Rows L2 PySem.W
section
variable {prog : Program} {w : World} {A : Around} {E : Value → Shared → Prop} {s : Shared} {x C : Addr} {K : Frag}
theorem x_misses {S : Addr} {Q : Bool → Shared → Prop} (X : K.In s.heap) (I : XAt x C s.heap) (ht : typeIn K (.ref S) = some (.type "type")) (hcS : (clsIn K S).isSome = true) (hb : mroIn K S (.type "BaseException") = some true) (hs : mroIn K C (.ref S) = some false) (q : Q false s) :
    wpAny (model prog w) A (excMatches (.ref x) (.ref S)) Q E s := by
  obtain ⟨h0, g0, d0, t0, os0⟩ := s
  have l0 := x_type (M := model prog w) I
  have l1 := looks_typeIn (M := model prog w) X ht
  have l2 := looks_mroIn (M := model prog w) X hb
  have l3 := looks_mroIn (M := model prog w) X hs
  have l4 : Looks (model prog w) h0 (isType (.ref S)) true := by
    obtain ⟨cd, hc⟩ := Option.isSome_iff_exists.mp hcS
    unfold clsIn at hc
    split at hc
    · rename_i ho
      intro A' Q' E' s' k q
      unfold isType loadHead
      exact wpAny_bind (wpAny_loadPart (k _ _ (X _ _ ho)) (wpAny_pure q))
    · cases hc
  have l5 : Looks (model prog w) h0 (isSubtype (.type "type") (.type "tuple")) false := Looks.of_pure (by rw [isSubtype_type]; kernel_rfl)
  unfold excMatches isInstance isExcClass
  repeat lk
  exact q
end
section
variable {X : Cx}
def tTryC (K : PySem.W.Frag) (S T : Addr) (iy iq iz ie : Nat) (u1 u2 : Str) (sp : Sp) (t : TA) : TS := fun D σ H => t σ H fun vs H1 => sp vs H1 (fun v H2 => D.nx (σ.set iy (some v)) H2)
  fun c _ H2 => ∃ C, c = .ref C ∧ ((PySem.W.mroIn K C (.ref S) = some true ∧ ∀ x, H2 x = none → D.nx ((((σ.set ie (some (.ref x))).set iq (some (.str u1))).set iz (some (.ref x))).set ie none) (upd H2 x (Exc x C))) ∨
    (PySem.W.mroIn K C (.ref S) = some false ∧ PySem.W.mroIn K C (.ref T) = some true ∧ ∀ x, H2 x = none → D.nx ((((σ.set ie (some (.ref x))).set iq (some (.str u2))).set iz (some (.ref x))).set ie none) (upd H2 x (Exc x C))))
def tTryC2 (K : PySem.W.Frag) (S T : Addr) (iy iq iz ie : Nat) (u1 u2 : Str) (tc : TT) (sp1 : Sp) (t1 : TA) (sp2 : Sp) (t2 : TA) : TS := fun D σ H => tc σ H fun b H1 => if b = true then tTryC K S T iy iq iz ie u1 u2 sp1 t1 D σ H1 else tTryC K S T iy iq iz ie u1 u2 sp2 t2 D σ H1
theorem ps_tryC2 {c d1 d2 : Expr} {tc : TT} {x1 x2 y qq z n S T : Str} {u1 u2 : Str} {SA SB : Addr} {iy iq iz ie : Nat} {ps1 ps2 : List Str} {k1 k2 k' : Nat} {sp1 sp2 : Sp} {fp1 yp1 cp1 ap1 fp2 yp2 cp2 ap2 ip sp1p sp2p np1 zp1 zap1 hp1 np2 zp2 zap2 hp2 qp1 qap1 qp2 qap2 pos : Pos} {e1 e2 : Expr} {es1 es2 : List Expr} {t1 t2 : TA} (hxe : X.xe = fun _ _ => False) (hr : Room k' X.A) (hc : PT X c tc)
    (C1 : Cal1 X.prog X.w X.K X.mg X.base x1 ps1 k1 sp1) (hk1 : k1 ≤ k') (hg1 : Gl X x1) (ha1 : PA X (e1 :: es1) t1)
    (C2 : Cal1 X.prog X.w X.K X.mg X.base x2 ps2 k2 sp2) (hk2 : k2 ≤ k') (hg2 : Gl X x2) (ha2 : PA X (e2 :: es2) t2)
    (cl : Clause X.K X.mg S SA) (hgS : Gl X S) (cl2 : Clause X.K X.mg T SB) (hgT : Gl X T) (hd1 : ∀ X' : Cx, PE X' d1 (tC (.str u1))) (hd2 : ∀ X' : Cx, PE X' d2 (tC (.str u2))) (hst : X.stack = X.env :: X.outer) (hfm : X.env.frame = some X.env.locals) (hex : X.ex = []) (hN : X.N.Nodup) (hy : X.N[iy]? = some y) (hq : X.N[iq]? = some qq) (hz : X.N[iz]? = some z) (hn : X.N[ie]? = some n)
    (ly : Loc X.env.scope y) (lq : Loc X.env.scope qq) (lz : Loc X.env.scope z) (ln : X.env.scope.names.lookup n = some .local) (hie : ie ≠ iz) (hiq : iq ≠ ie)
    (fy : X.fn y = true ∨ X.env.scope.names.lookup y = some .local := by first | exact .inl rfl | exact .inr rfl | assumption) (fq : X.fn qq = true ∨ X.env.scope.names.lookup qq = some .local := by first | exact .inl rfl | exact .inr rfl | assumption) (fz : X.fn z = true ∨ X.env.scope.names.lookup z = some .local := by first | exact .inl rfl | exact .inr rfl | assumption)
    (hdb1 : (x1 == ("__debug__" : Str)) = false := by decide) (hdb2 : (x2 == ("__debug__" : Str)) = false := by decide) (hdS : (S == ("__debug__" : Str)) = false := by decide) (hdT : (T == ("__debug__" : Str)) = false := by decide) (hdn : (n == ("__debug__" : Str)) = false := by decide) (hcn : (n == ("__classdict__" : Str)) = false := by decide)
    (he1 : starEach (e1 :: es1) X.env = (false, eval e1 X.env) :: starEach es1 X.env := by rfl) (hpl1 : (backTo cp1 (starEach es1 X.env)).any (·.1) = false := by rfl)
    (he2 : starEach (e2 :: es2) X.env = (false, eval e2 X.env) :: starEach es2 X.env := by rfl) (hpl2 : (backTo cp2 (starEach es2 X.env)).any (·.1) = false := by rfl)
    (hsw1 : swapsWith (.Call (.Name x1 fp1) (e1 :: es1) [] cp1) (some (.Name y yp1)) ap1.line X.env = pure false := by rfl) (hsw2 : swapsWith (.Call (.Name x2 fp2) (e2 :: es2) [] cp2) (some (.Name y yp2)) ap2.line X.env = pure false := by rfl)
    (hsz1 : swapsWith (.Name n np1) (some (.Name z zp1)) zap1.line X.env = pure false := by rfl) (hsz2 : swapsWith (.Name n np2) (some (.Name z zp2)) zap2.line X.env = pure false := by rfl)
    (hsq1 : ∀ E' : Env, swapsWith d1 (some (.Name qq qp1)) qap1.line E' = pure false := by intro _; rfl) (hsq2 : ∀ E' : Env, swapsWith d2 (some (.Name qq qp2)) qap2.line E' = pure false := by intro _; rfl) :
    PS X (.Try [.If c [.Assign [.Name y yp1] (.Call (.Name x1 fp1) (e1 :: es1) [] cp1) ap1] [.Assign [.Name y yp2] (.Call (.Name x2 fp2) (e2 :: es2) [] cp2) ap2] ip]
      [.ExceptHandler (some (.Name S sp1p)) (some n) [.Assign [.Name qq qp1] d1 qap1, .Assign [.Name z zp1] (.Name n np1) zap1] hp1, .ExceptHandler (some (.Name T sp2p)) (some n) [.Assign [.Name qq qp2] d2 qap2, .Assign [.Name z zp2] (.Name n np2) zap2] hp2] [] [] pos) (tTryC2 X.K SA SB iy iq iz ie u1 u2 tc sp1 t1 sp2 t2) := by
  intro pins s0 σ H0 D I0 h0
  refine wpAny_Try_except (wpAny_execs_cons (wpAny_If ?_))
  have run0 := hc pins s0 σ H0 _ I0 h0
  rw [hxe] at run0
  refine toE (thn run0 fun bb s ⟨H, I, h⟩ => ?_)
  cases bb with
  | true =>
    replace h : tTryC X.K SA SB iy iq iz ie u1 u2 sp1 t1 D σ H := h
    show wpAny _ _ (execs [.Assign [.Name y yp1] (.Call (.Name x1 fp1) (e1 :: es1) [] cp1) ap1] X.env) _ _ s
    obtain ⟨f, fd, F, b, kp, hm⟩ := C1
    refine wpAny_execs_cons (wpAny_Assign_Name ?_ hsw1)
    refine wpAny_Call_Name_kw (ld_glob I hg1 hm ?_ hdb1)
    have run := ha1 cp1 pins s σ H _ I h
    rw [hxe] at run
    refine PySem.W.callWith_K (h₀ := X.base) I.ok.mod.kin kp (toE (thn run fun us s1 ⟨vs, H1, I1, r, q⟩ => ⟨I1.kIn, ?_⟩)) he1 hpl1
    have hl : us.length = ps1.length := by rw [← r.length]; exact F.len _ _ _ _ q
    refine wpAny_call (codeAny_mono (F.run X.A X.stack s1 H1 ⟨us, []⟩ (us ++ []) vs _ _ (hr.mono hk1) I1.env0 (b s1 us I1.kIn (by rw [List.append_nil]; exact hl)) (by rw [List.append_nil]; exact r) q) fun r' s2 hq => ?_)
    cases r' with
    | ok fl =>
      cases fl with
      | ret u =>
        obtain ⟨v, H2, I2, rv, hv⟩ := I1.after hq
        exact store_ok I2 hN hy ly rv (fun s3 I3 => wpAny_execs_nil (wpAny_execs_nil (wpAny_execs_nil ⟨_, H2, I3, hv⟩))) fy
      | next => exact False.elim hq
      | brk => exact False.elim hq
      | cont => exact False.elim hq
    | error ev =>
      obtain ⟨xa, C, H2, B, rfl, Fl, C', hC, hsub⟩ := hq
      cases hC
      obtain ⟨ta, fl⟩ := Fl.fl
      have hfr : X.A.frames = some (X.env :: X.outer) := by rw [← hst]; exact I.ok.frames
      have fl' := fl
      rw [hst] at fl'
      have hxl : xa ≠ X.env.locals := fun z => by
        obtain ⟨m, ⟨o, es', ep, e', _⟩, _⟩ := I1.loc
        rw [← z, Fl.new] at e'; cases e'
      have hxc : ∀ y a, X.env.cells.lookup y = some a → a ≠ xa := fun y a e' z => by
        obtain ⟨v, o, ho, _⟩ := I1.cell y a e'
        rw [z, Fl.new] at ho; cases ho
      have hxp : ∀ p ∈ X.pn ++ pins, p.1 ≠ xa := fun p hp z => by
        have := (I1.pin p hp).1
        rw [z, Fl.new] at this; cases this
      have inv_at : ∀ (h' : Heap), B.StaysIn h' → s2.heap.UpToSlots h' → Inv X pins σ H2 { s2 with heap := h' } := fun h' k1 k2 => by
        obtain ⟨un, hok⟩ := Fl.turn k1 k2
        exact I1.call' (s' := { s2 with heap := h' }) Fl.os un hok Fl.bare (fun b z => absurd z (by simp))
      refine wpAny_looks_onW hfr hfm fl' fun h4 held4 up4 => ?_
      refine wpAny_landsW held4 fun h5 fl5 up5 => ?_
      have up45 := up4.trans up5
      have I5 := inv_at h5 fl5.1 up45
      have c5 : XAt xa C h5 := by obtain ⟨o, e1, e2⟩ := fl5.there; exact ⟨o, e1, e2⟩
      have x0 : X.s₀.heap.get? xa = none := by
        cases e' : X.s₀.heap.get? xa with
        | none => rfl
        | some o =>
          obtain ⟨o', e1⟩ := I1.base.there xa o e' (by rw [hex]; simp)
          rw [Fl.new] at e1; cases e1
      refine wpAny_handleBy_cons (codeAny_handlers_test (ld_glob (X := sui X (.ref xa)) (Inv.suite I5 _) hgS cl.nm ?_ hdS)) (by intro q; cases q)
      rcases hsub with ⟨hsub, hE⟩ | ⟨hno, hsub, hE⟩
      · refine x_matches I5.kIn c5 cl.ty cl.cl cl.bs hsub ?_
        refine codeAny_handlers_suite_as (lands_againW fl5 fun h6 fl6 up6 => ?_)
        have I6 := inv_at h6 fl6.1 (up45.trans up6)
        have c6 : XAt xa C h6 := by obtain ⟨o, e1, e2⟩ := fl6.there; exact ⟨o, e1, e2⟩
        have I7 := Inv.trackX I6 Fl.xf c6 x0 hxl hxc hxp
        refine store_ok (X := sui X (.ref xa)) (Inv.suite I7 _) hN hn (.inl ln) (v := .ref xa) rfl (fun s8 I8 => ?_) (.inr ln)
        have suite : PSs (sui X (.ref xa)) [.Assign [.Name qq qp1] d1 qap1, .Assign [.Name z zp1] (.Name n np1) zap1] (tSeq (tAsg (tC (.str u1)) (gName iq)) (tAsg (tVar ie) (gName iz))) := pss_cons (ps_set hN hq lq (hd1 _) (hsq1 _) fq) (pss_one (ps_set hN hz lz (pe_var hn (.inl ln) hdn hcn) hsz1 fz))
        have hiσ : ie < σ.length := by rw [I.len]; exact (List.getElem?_eq_some_iff.mp hn).1
        have go := suite pins s8 _ _ { nx := fun σ' H' => σ' = ((σ.set ie (some (.ref xa))).set iq (some (.str u1))).set iz (some (.ref xa)) ∧ H' = upd H2 xa (Exc xa C), rt := fun _ _ => False } I8 ⟨_, by rw [List.getElem?_set_ne hiq]; exact List.getElem?_set_self hiσ, rfl, rfl⟩
        refine toE (wpAny_mono go (fun f s9 hf => ?_) fun _ _ z => z)
        cases f with
        | next =>
          obtain ⟨σ9, H9, I9, rfl, rfl⟩ := hf
          exact goes_ok (Inv.unsuite I.ok I9) hN hn ln fun s10 I10 => ⟨_, _, I10, hE xa Fl.xf⟩
        | ret u => obtain ⟨_, _, _, _, _, z⟩ := hf; exact z.elim
        | brk => obtain ⟨_, _, _, z⟩ := hf; exact z.elim
        | cont => obtain ⟨_, _, _, z⟩ := hf; exact z.elim
      · refine x_misses I5.kIn c5 cl.ty cl.cl cl.bs hno ?_
        refine wpAny_handleBy_cons (codeAny_handlers_test (ld_glob (X := sui X (.ref xa)) (Inv.suite I5 _) hgT cl2.nm ?_ hdT)) (by intro q; cases q)
        refine x_matches I5.kIn c5 cl2.ty cl2.cl cl2.bs hsub ?_
        refine codeAny_handlers_suite_as (lands_againW fl5 fun h6 fl6 up6 => ?_)
        have I6 := inv_at h6 fl6.1 (up45.trans up6)
        have c6 : XAt xa C h6 := by obtain ⟨o, e1, e2⟩ := fl6.there; exact ⟨o, e1, e2⟩
        have I7 := Inv.trackX I6 Fl.xf c6 x0 hxl hxc hxp
        refine store_ok (X := sui X (.ref xa)) (Inv.suite I7 _) hN hn (.inl ln) (v := .ref xa) rfl (fun s8 I8 => ?_) (.inr ln)
        have suite : PSs (sui X (.ref xa)) [.Assign [.Name qq qp2] d2 qap2, .Assign [.Name z zp2] (.Name n np2) zap2] (tSeq (tAsg (tC (.str u2)) (gName iq)) (tAsg (tVar ie) (gName iz))) := pss_cons (ps_set hN hq lq (hd2 _) (hsq2 _) fq) (pss_one (ps_set hN hz lz (pe_var hn (.inl ln) hdn hcn) hsz2 fz))
        have hiσ : ie < σ.length := by rw [I.len]; exact (List.getElem?_eq_some_iff.mp hn).1
        have go := suite pins s8 _ _ { nx := fun σ' H' => σ' = ((σ.set ie (some (.ref xa))).set iq (some (.str u2))).set iz (some (.ref xa)) ∧ H' = upd H2 xa (Exc xa C), rt := fun _ _ => False } I8 ⟨_, by rw [List.getElem?_set_ne hiq]; exact List.getElem?_set_self hiσ, rfl, rfl⟩
        refine toE (wpAny_mono go (fun f s9 hf => ?_) fun _ _ z => z)
        cases f with
        | next =>
          obtain ⟨σ9, H9, I9, rfl, rfl⟩ := hf
          exact goes_ok (Inv.unsuite I.ok I9) hN hn ln fun s10 I10 => ⟨_, _, I10, hE xa Fl.xf⟩
        | ret u => obtain ⟨_, _, _, _, _, z⟩ := hf; exact z.elim
        | brk => obtain ⟨_, _, _, z⟩ := hf; exact z.elim
        | cont => obtain ⟨_, _, _, z⟩ := hf; exact z.elim
  | false =>
    replace h : tTryC X.K SA SB iy iq iz ie u1 u2 sp2 t2 D σ H := h
    show wpAny _ _ (execs [.Assign [.Name y yp2] (.Call (.Name x2 fp2) (e2 :: es2) [] cp2) ap2] X.env) _ _ s
    obtain ⟨f, fd, F, b, kp, hm⟩ := C2
    refine wpAny_execs_cons (wpAny_Assign_Name ?_ hsw2)
    refine wpAny_Call_Name_kw (ld_glob I hg2 hm ?_ hdb2)
    have run := ha2 cp2 pins s σ H _ I h
    rw [hxe] at run
    refine PySem.W.callWith_K (h₀ := X.base) I.ok.mod.kin kp (toE (thn run fun us s1 ⟨vs, H1, I1, r, q⟩ => ⟨I1.kIn, ?_⟩)) he2 hpl2
    have hl : us.length = ps2.length := by rw [← r.length]; exact F.len _ _ _ _ q
    refine wpAny_call (codeAny_mono (F.run X.A X.stack s1 H1 ⟨us, []⟩ (us ++ []) vs _ _ (hr.mono hk2) I1.env0 (b s1 us I1.kIn (by rw [List.append_nil]; exact hl)) (by rw [List.append_nil]; exact r) q) fun r' s2 hq => ?_)
    cases r' with
    | ok fl =>
      cases fl with
      | ret u =>
        obtain ⟨v, H2, I2, rv, hv⟩ := I1.after hq
        exact store_ok I2 hN hy ly rv (fun s3 I3 => wpAny_execs_nil (wpAny_execs_nil (wpAny_execs_nil ⟨_, H2, I3, hv⟩))) fy
      | next => exact False.elim hq
      | brk => exact False.elim hq
      | cont => exact False.elim hq
    | error ev =>
      obtain ⟨xa, C, H2, B, rfl, Fl, C', hC, hsub⟩ := hq
      cases hC
      obtain ⟨ta, fl⟩ := Fl.fl
      have hfr : X.A.frames = some (X.env :: X.outer) := by rw [← hst]; exact I.ok.frames
      have fl' := fl
      rw [hst] at fl'
      have hxl : xa ≠ X.env.locals := fun z => by
        obtain ⟨m, ⟨o, es', ep, e', _⟩, _⟩ := I1.loc
        rw [← z, Fl.new] at e'; cases e'
      have hxc : ∀ y a, X.env.cells.lookup y = some a → a ≠ xa := fun y a e' z => by
        obtain ⟨v, o, ho, _⟩ := I1.cell y a e'
        rw [z, Fl.new] at ho; cases ho
      have hxp : ∀ p ∈ X.pn ++ pins, p.1 ≠ xa := fun p hp z => by
        have := (I1.pin p hp).1
        rw [z, Fl.new] at this; cases this
      have inv_at : ∀ (h' : Heap), B.StaysIn h' → s2.heap.UpToSlots h' → Inv X pins σ H2 { s2 with heap := h' } := fun h' k1 k2 => by
        obtain ⟨un, hok⟩ := Fl.turn k1 k2
        exact I1.call' (s' := { s2 with heap := h' }) Fl.os un hok Fl.bare (fun b z => absurd z (by simp))
      refine wpAny_looks_onW hfr hfm fl' fun h4 held4 up4 => ?_
      refine wpAny_landsW held4 fun h5 fl5 up5 => ?_
      have up45 := up4.trans up5
      have I5 := inv_at h5 fl5.1 up45
      have c5 : XAt xa C h5 := by obtain ⟨o, e1, e2⟩ := fl5.there; exact ⟨o, e1, e2⟩
      have x0 : X.s₀.heap.get? xa = none := by
        cases e' : X.s₀.heap.get? xa with
        | none => rfl
        | some o =>
          obtain ⟨o', e1⟩ := I1.base.there xa o e' (by rw [hex]; simp)
          rw [Fl.new] at e1; cases e1
      refine wpAny_handleBy_cons (codeAny_handlers_test (ld_glob (X := sui X (.ref xa)) (Inv.suite I5 _) hgS cl.nm ?_ hdS)) (by intro q; cases q)
      rcases hsub with ⟨hsub, hE⟩ | ⟨hno, hsub, hE⟩
      · refine x_matches I5.kIn c5 cl.ty cl.cl cl.bs hsub ?_
        refine codeAny_handlers_suite_as (lands_againW fl5 fun h6 fl6 up6 => ?_)
        have I6 := inv_at h6 fl6.1 (up45.trans up6)
        have c6 : XAt xa C h6 := by obtain ⟨o, e1, e2⟩ := fl6.there; exact ⟨o, e1, e2⟩
        have I7 := Inv.trackX I6 Fl.xf c6 x0 hxl hxc hxp
        refine store_ok (X := sui X (.ref xa)) (Inv.suite I7 _) hN hn (.inl ln) (v := .ref xa) rfl (fun s8 I8 => ?_) (.inr ln)
        have suite : PSs (sui X (.ref xa)) [.Assign [.Name qq qp1] d1 qap1, .Assign [.Name z zp1] (.Name n np1) zap1] (tSeq (tAsg (tC (.str u1)) (gName iq)) (tAsg (tVar ie) (gName iz))) := pss_cons (ps_set hN hq lq (hd1 _) (hsq1 _) fq) (pss_one (ps_set hN hz lz (pe_var hn (.inl ln) hdn hcn) hsz1 fz))
        have hiσ : ie < σ.length := by rw [I.len]; exact (List.getElem?_eq_some_iff.mp hn).1
        have go := suite pins s8 _ _ { nx := fun σ' H' => σ' = ((σ.set ie (some (.ref xa))).set iq (some (.str u1))).set iz (some (.ref xa)) ∧ H' = upd H2 xa (Exc xa C), rt := fun _ _ => False } I8 ⟨_, by rw [List.getElem?_set_ne hiq]; exact List.getElem?_set_self hiσ, rfl, rfl⟩
        refine toE (wpAny_mono go (fun f s9 hf => ?_) fun _ _ z => z)
        cases f with
        | next =>
          obtain ⟨σ9, H9, I9, rfl, rfl⟩ := hf
          exact goes_ok (Inv.unsuite I.ok I9) hN hn ln fun s10 I10 => ⟨_, _, I10, hE xa Fl.xf⟩
        | ret u => obtain ⟨_, _, _, _, _, z⟩ := hf; exact z.elim
        | brk => obtain ⟨_, _, _, z⟩ := hf; exact z.elim
        | cont => obtain ⟨_, _, _, z⟩ := hf; exact z.elim
      · refine x_misses I5.kIn c5 cl.ty cl.cl cl.bs hno ?_
        refine wpAny_handleBy_cons (codeAny_handlers_test (ld_glob (X := sui X (.ref xa)) (Inv.suite I5 _) hgT cl2.nm ?_ hdT)) (by intro q; cases q)
        refine x_matches I5.kIn c5 cl2.ty cl2.cl cl2.bs hsub ?_
        refine codeAny_handlers_suite_as (lands_againW fl5 fun h6 fl6 up6 => ?_)
        have I6 := inv_at h6 fl6.1 (up45.trans up6)
        have c6 : XAt xa C h6 := by obtain ⟨o, e1, e2⟩ := fl6.there; exact ⟨o, e1, e2⟩
        have I7 := Inv.trackX I6 Fl.xf c6 x0 hxl hxc hxp
        refine store_ok (X := sui X (.ref xa)) (Inv.suite I7 _) hN hn (.inl ln) (v := .ref xa) rfl (fun s8 I8 => ?_) (.inr ln)
        have suite : PSs (sui X (.ref xa)) [.Assign [.Name qq qp2] d2 qap2, .Assign [.Name z zp2] (.Name n np2) zap2] (tSeq (tAsg (tC (.str u2)) (gName iq)) (tAsg (tVar ie) (gName iz))) := pss_cons (ps_set hN hq lq (hd2 _) (hsq2 _) fq) (pss_one (ps_set hN hz lz (pe_var hn (.inl ln) hdn hcn) hsz2 fz))
        have hiσ : ie < σ.length := by rw [I.len]; exact (List.getElem?_eq_some_iff.mp hn).1
        have go := suite pins s8 _ _ { nx := fun σ' H' => σ' = ((σ.set ie (some (.ref xa))).set iq (some (.str u2))).set iz (some (.ref xa)) ∧ H' = upd H2 xa (Exc xa C), rt := fun _ _ => False } I8 ⟨_, by rw [List.getElem?_set_ne hiq]; exact List.getElem?_set_self hiσ, rfl, rfl⟩
        refine toE (wpAny_mono go (fun f s9 hf => ?_) fun _ _ z => z)
        cases f with
        | next =>
          obtain ⟨σ9, H9, I9, rfl, rfl⟩ := hf
          exact goes_ok (Inv.unsuite I.ok I9) hN hn ln fun s10 I10 => ⟨_, _, I10, hE xa Fl.xf⟩
        | ret u => obtain ⟨_, _, _, _, _, z⟩ := hf; exact z.elim
        | brk => obtain ⟨_, _, _, z⟩ := hf; exact z.elim
        | cont => obtain ⟨_, _, _, z⟩ := hf; exact z.elim
end
end L3

/-! Dicts: setdefault, get; keys that are numbers, texts, or tuples of these. -/
namespace L3
open PySem PySem.Spec PyProof.Rows L2
section
variable {prog : Program} {w : World} {κ : Type} [DecidableEq κ] {knd : HeapKind prog w κ} {A : Around} {E : Value → Shared → Prop} {s : Shared}
theorem sd_heap {d a : Addr} {xs : List (κ × Addr × Value)} {k : κ} {v : Value} {Q : Value → Shared → Prop} (hu : knd.room A) (hkey : knd.is s.heap k a) (hm : s.heap.DictOfH knd d xs) (hsz : xs.length ≤ sizeLine)
    (h1 : ∀ p, atKey xs k = some p → Q p.2 { s with toks := s.toks + knd.draws k })
    (h2 : atKey xs k = none → ∀ h', h'.DictOfH knd d (storedH xs k a v) → Heap.SameBut d s.heap h' → Q v { s with heap := h', toks := s.toks + knd.draws k }) :
    wpAny (model prog w) A (dictSetDefault d (.ref a) v) Q E s := by
  obtain ⟨o, es, ep, ho, hc, hd, he, his, hn⟩ := hm
  unfold dictSetDefault
  try with_reducible refine wpAny_holding ?_
  refine wpAny_bind (knd.pyHash hu hkey (wpAny_bind (wpAny_dictFind_heap (s := { s with toks := s.toks + knd.draws k }) hu hkey ho hd he his hn ?_ ?_)))
  · intro hno
    have hnot : k ∉ xs.map (·.1) := not_mem_keys_of_get hno
    have hsn := storedH_new (a := a) (v := v) (atKey_none_of_get hno)
    refine wpAny_bind (wpAny_rule (wpAny_bind (wpAny_updateDictKeys (hz := by have e := size_of_entries he; omega) (s := { s with toks := s.toks + knd.draws k }) ho hd (wpAny_pure
      (h2 (atKey_none_of_get hno) _ ⟨_, _, ep + 1, Heap.get?_update_self _ ho (Obj.isFreed_of_dict (Obj.data_mapDictKeys hd _)), hc.mapDictKeys _, Obj.data_mapDictKeys hd _, ?_, ?_, ?_⟩ (Heap.SameBut.update ..))))))
    · rw [hsn]; simp [he, entryOfKey]
    · rw [hsn]
      intro x hx
      rcases List.mem_append.mp hx with hx | hx
      · exact knd.keeps (his x hx) ho hd (Heap.SameBut.update ..)
      · cases List.mem_singleton.mp hx
        exact knd.keeps hkey ho hd (Heap.SameBut.update ..)
    · rw [hsn, List.map_append, List.nodup_append]
      refine ⟨hn, by simp, fun x hx y hy => ?_⟩
      cases List.mem_singleton.mp hy
      exact fun e => hnot ((show x = k from e) ▸ hx)
  · intro j p hj
    refine wpAny_bind (wpAny_dictEntries (s := { s with toks := s.toks + knd.draws k }) ho hd ?_)
    rw [entry_at he j, hj]
    exact wpAny_bind (wpAny_rule (wpAny_pure (h1 _ (atKey_of_get hn hj))))
theorem sd_meets {d a : Addr} (hd : (d == sysModules) = false) (dflt : Value) :
    MeetsIn prog w (Builtin.«dict.setdefault» ⟨[.ref d, .ref a, dflt], []⟩) (fun A R s => knd.room A.in1 ∧ ∃ k xs, knd.is s.heap k a ∧ s.heap.DictOfH knd d xs ∧ xs.length ≤ sizeLine ∧
      (∀ p, atKey xs k = some p → R (.ok (.ret p.2)) { s with toks := s.toks + knd.draws k }) ∧
      (atKey xs k = none → ∀ h', h'.DictOfH knd d (storedH xs k a dflt) → Heap.SameBut d s.heap h' → R (.ok (.ret dflt)) { s with heap := h', toks := s.toks + knd.draws k })) :=
  .of_wp fun A R s ⟨hu, k, xs, hkey, hm, hz, h1, h2⟩ => by
    unfold Builtin.«dict.setdefault»
    refine wpAny_bind ?_
    unfold Builtin.Dict.keyAndDefault
    refine wpAny_bind (wpAny_notOrdered_dict hm.typeIs ?_)
    show wpAny _ _ (pure (d, Value.ref a, some dflt)) _ _ s
    refine wpAny_pure ?_
    show wpAny _ _ (if (d == sysModules) = true then _ else (dictSetDefault d (.ref a) dflt >>= _)) _ _ s
    rw [if_neg (by rw [hd]; exact Bool.false_ne_true)]
    exact wpAny_bind (sd_heap hu hkey hm hz (fun p hp => wpAny_pure ⟨_, rfl, h1 p hp⟩) fun hn h' hm' hs' => wpAny_pure ⟨_, rfl, h2 hn h' hm' hs'⟩)
end
section
variable {X : Cx}
def rSetD : V → List V → Hp → VK → Prop := fun x vs H Q => ∃ a y z, x = .ref a ∧ vs = [y, z] ∧
  ((∃ kvs k, H a = some (.dK kvs) ∧ y = kV k ∧ kvs.length < sizeLine ∧ (∀ r, valV kvs k = some r → Q r H) ∧ (valV kvs k = none → Q z (upd H a (.dK (putK kvs k z))))) ∨
   ∃ kvs k b, H a = some (.dT kvs) ∧ y = .ref b ∧ H b = some (.tup (k.map kV)) ∧ kvs.length < sizeLine ∧ (∀ r, valV kvs k = some r → Q r H) ∧ (valV kvs k = none → Q z (upd H a (.dT (putK kvs k z)))))
theorem args_sd (a b c : Value) : argsOk "dict.setdefault" ⟨[a, b, c], []⟩ := by unfold argsOk; kernel_rfl
theorem mt_setdefault {k0 : Nat} (hr : Room k0 X.A) : MtR X "dict.setdefault" rSetD := by
  intro pins s σ H x vs v us Q I rx rv h
  obtain ⟨a, y, z, rfl, rfl, h⟩ := h
  cases rx
  obtain ⟨u, r, rfl, ru, rr⟩ := vals2 rv
  rcases h with ⟨kvs, k, e, rfl, hl, h1, h2⟩ | ⟨kvs, k, b, e, rfl, eb, hl, h1, h2⟩
  · obtain ⟨hz, hd, ws, rel, dd⟩ := dk_of I.hok e
    refine call_meetsIn PySem.F.slot_dict_setdefault dd.typeIs PySem.F.entry_dict_setdefault (args_sd _ _ _) (kt_meets_setdefault (mixKind X.prog X.w) a (kV_is ru) hd r)
      ⟨ws, dd, by rw [← rel.length]; exact hz, fun v' hv' => ?_, fun hn h' dd' hs => ?_⟩
    · have q := rel.val k
      rw [hv'] at q
      cases hk : valV kvs k with
      | none => rw [hk] at q; exact q.elim
      | some r' => rw [hk] at q; exact ⟨r', H, I.tok _, q, h1 r' hk⟩
    · have q := rel.val k
      rw [hn] at q
      cases hk : valV kvs k with
      | some r' => rw [hk] at q; exact q.elim
      | none =>
        refine ⟨z, _, d_write I (by rw [e]; exact True.intro) hs (let ⟨q, _, _, hq, _⟩ := dd'; ⟨q, hq⟩) (dk_new ?_ hd (rel.put k rr) dd'), rr, h2 hk⟩
        have := length_putK kvs k z
        omega
  · cases (show u = Value.ref b from ru)
    obtain ⟨hz, hd, xs, rel, dd⟩ := dt_of I.hok e
    refine call_meetsIn PySem.F.slot_dict_setdefault dd.typeIs PySem.F.entry_dict_setdefault (args_sd _ _ _) (sd_meets (knd := tupleKind (mixKind X.prog X.w)) (d := a) (a := b) hd r)
      ⟨tupleKind_room_in1 (hu_of hr), k, xs, key_of I.hok eb, dd, by rw [← Paired.length rel]; exact hz, fun p hp => ?_, fun hn h' dd' hs => ?_⟩
    · have q := rel.val k
      rw [hp] at q
      cases hk : valV kvs k with
      | none => rw [hk] at q; exact q.elim
      | some r' => rw [hk] at q; exact ⟨r', H, I.tok _, q, h1 r' hk⟩
    · have q := rel.val k
      rw [hn] at q
      cases hk : valV kvs k with
      | some r' => rw [hk] at q; exact q.elim
      | none =>
        obtain ⟨q, es, ep, hq, g2, g3, g4, _, g5⟩ := dd'
        refine ⟨z, upd H a (.dT (putK kvs k z)), d_write (ob := .dT (putK kvs k z)) I (by rw [e]; exact True.intro) hs ⟨q, hq⟩ ⟨?_, hd, _, (rel.put k eb rr).keeps fun c ys ec => ?_, q, es, ep, hq, g2, g3, g4, g5⟩, rr, h2 hk⟩
        · have := length_putK kvs k z
          omega
        · rw [upd_ne (ne_of ec e (fun z => nomatch z))]
          exact ec
def rGet2 : V → List V → Hp → VK → Prop := fun x vs H Q => ∃ a y z o, x = .ref a ∧ vs = [y, z] ∧ DGet H a y o ∧ Q (o.getD z) H
theorem mt_get2 {k0 : Nat} (hr : Room k0 X.A) : MtR X "dict.get" rGet2 := by
  intro pins s σ H x vs v us Q I rx rv h
  obtain ⟨a, y, z, o, rfl, rfl, g, q⟩ := h
  cases rx
  obtain ⟨u, r, rfl, ru, rr⟩ := vals2 rv
  exact d_get2 (hu_of hr) I g ru rr fun w' s' I' rw' => ⟨_, H, I', rw', q⟩
end
end L3

/-! A loop over a text. -/
namespace L3
open PySem PySem.Spec PyProof.Rows L2
section
variable {X : Cx} {tg : Expr}
end
end L3

/-! A dict of whatever keys, walked: list(d), sorted(d), for k in d. -/
namespace L3
open PySem PySem.Spec PyProof.Rows L2 PySem.W
def RawD (d : Addr) (es : Array DictEntry) (p : Nat) (h : Heap) : Prop := ∃ b, h.get? d = some b ∧ b.ExactDict ∧ b.data = .dict es p
section
variable {prog : Program} {w : World} {A : Around} {E : Value → Shared → Prop} {s : Shared} {d it : Addr} {es : Array DictEntry} {p i : Nat}
theorem RawD.ty (r : RawD d es p s.heap) : s.TypeIs (.ref d) "dict" := let ⟨b, e, x, _⟩ := r; ⟨b, e, x.1⟩
theorem RawD.at {h h' : Heap} (r : RawD d es p h) (k : ∀ o, h.get? d = some o → h'.get? d = some o) : RawD d es p h' := let ⟨b, e, x⟩ := r; ⟨b, k _ e, x⟩
theorem RawD.lt {h : Heap} (r : RawD d es p h) : d < h.objs.size := let ⟨_, e, _⟩ := r; Heap.lt_size e
theorem rd_iter {Q : Value → Shared → Prop} (lo : (d == sysModules) = false) (r : RawD d es p s.heap)
    (q : Q (.ref s.heap.objs.size) { s with heap := s.heap.push { cls := .type "dict_keyiterator", data := .fields #[.ref d, .int 0 0, .int es.size 0, .int p 0] } }) : wpAny (model prog w) A (pyIter (.ref d)) Q E s := by
  obtain ⟨b, eb, xb, db⟩ := id r
  refine wpAny_pyIter_slot r.ty PySem.F.slot_dict_iter (wpAny_call_entry PySem.F.slot_dict_iter r.ty PySem.F.entry_dict_iter ?_ (PySem.F.args_dict_iter_1 _))
  unfold Builtin.«dict.__iter__»
  refine wpAny_bind ?_
  unfold Builtin.Dict.dictSlotNone
  refine wpAny_bind (wpAny_notOrdered_dict r.ty ?_)
  show wpAny _ _ (pure (.ref d : Value)) _ _ s
  refine wpAny_pure ?_
  show wpAny _ _ (Builtin.Dict.showsAll d >>= fun _ => _) _ _ s
  unfold Builtin.Dict.showsAll
  rw [lo]
  refine wpAny_bind (wpAny_pure (wpAny_bind (wpAny_dictEntries eb db (wpAny_bind (wpAny_dictEpoch eb db ?_)))))
  exact wpAny_bind (wpAny_newObj_type (wpAny_pure ⟨_, rfl, _, _, ⟨_, Heap.get?_push_size _ rfl, rfl⟩, PySem.F.slot_dict_keyiterator_next.lookup, q⟩))
theorem rd_item {Q : Option Value → Shared → Prop} {e : DictEntry} (st : s.heap.IsKeyIter it d i es.size p) (r : RawD d es p s.heap) (hx : es[i]? = some e)
    (q : ∀ h', h'.IsKeyIter it d (i + 1) es.size p → Heap.SameBut it s.heap h' → Q (some e.key) { s with heap := h' }) : wpAny (model prog w) A (pyNext (.ref it)) Q E s := by
  obtain ⟨b, eb, cb, db⟩ := id st
  obtain ⟨c, ec, xc, dc⟩ := id r
  unfold pyNext
  refine wpAny_bind (wpAny_attempt (wpAny_callSpecial?_slot (name := Str.ofString "__next__") st.typeIs PySem.F.slot_dict_keyiterator_next (wpAny_call_entry PySem.F.slot_dict_keyiterator_next st.typeIs PySem.F.entry_dict_keyiterator_next ?_ (PySem.F.args_dict_keyiterator_next_1 _))))
  refine wpAny_bind (wpAny_pure (wpAny_bind (wpAny_bind ?_)))
  refine wpAny_bind (wpAny_typeNameOfWhole_keyiter st.typeIs (wpAny_pure (wpAny_bind (wpAny_fieldsOf eb db ?_))))
  have own : Builtin.Dict_items.ownsTuple "dict_keyiterator" = false := by decide
  simp only [own, Bool.false_eq_true, if_false]
  show wpAny _ _ (if (Value.ref d == Value.none) = true then _ else _) _ _ _
  rw [if_neg (by intro z; cases z)]
  refine wpAny_bind (wpAny_pure (wpAny_bind (wpAny_dictEntries ec dc ?_)))
  rw [if_neg (by simp)]
  refine wpAny_bind (wpAny_pure (wpAny_bind (wpAny_dictEpoch ec dc ?_)))
  rw [if_neg (by simp)]
  refine wpAny_pure ?_
  simp only [show ¬ ((i : Int) < 0) by omega, if_false, Int.toNat_natCast, hx]
  refine wpAny_bind (wpAny_bind (wpAny_typeNameOfWhole_keyiter st.typeIs (wpAny_pure ?_)))
  refine wpAny_bind (wpAny_isOneOf_keyiter st.typeIs ?_)
  show wpAny _ _ (setField (.ref it) 1 (rawInt (i + 1)) >>= _) _ _ _
  refine wpAny_bind (wpAny_setField eb db (by simp) ?_)
  have st' : (s.heap.update it (Obj.mapFields (·.setIfInBounds 1 (rawInt ((i : Int) + 1))))).IsKeyIter it d (i + 1) es.size p :=
    ⟨_, Heap.get?_update_self _ eb (Obj.isFreed_of_fields (Obj.data_mapFields db _)), (Obj.cls_mapFields ..).trans cb, by rw [Obj.data_mapFields db]; simp [rawInt]⟩
  refine wpAny_bind (wpAny_holding (wpAny_bind (wpAny_isOneOf_keyiter (s := { s with heap := _ }) st'.typeIs ?_)))
  show wpAny _ _ (pure e.key) _ _ _
  exact wpAny_pure (wpAny_pure ⟨_, rfl, wpAny_pure (q _ st' (Heap.SameBut.update ..))⟩)
theorem rd_end {Q : Option Value → Shared → Prop} (hh : A.handled = none) (st : s.heap.IsKeyIter it d i es.size p) (r : RawD d es p s.heap) (hx : es[i]? = none)
    (q : ∀ h', Heap.ExtBut it s.heap h' → Q none { s with heap := h' }) : wpAny (model prog w) A (pyNext (.ref it)) Q E s := by
  obtain ⟨b, eb, cb, db⟩ := id st
  obtain ⟨c, ec, xc, dc⟩ := id r
  unfold pyNext
  refine wpAny_bind (wpAny_attempt (wpAny_callSpecial?_slot (name := Str.ofString "__next__") st.typeIs PySem.F.slot_dict_keyiterator_next (wpAny_call_entry PySem.F.slot_dict_keyiterator_next st.typeIs PySem.F.entry_dict_keyiterator_next ?_ (PySem.F.args_dict_keyiterator_next_1 _))))
  refine wpAny_bind (wpAny_pure (wpAny_bind (wpAny_bind ?_)))
  refine wpAny_bind (wpAny_typeNameOfWhole_keyiter st.typeIs (wpAny_pure (wpAny_bind (wpAny_fieldsOf eb db ?_))))
  have own : Builtin.Dict_items.ownsTuple "dict_keyiterator" = false := by decide
  simp only [own, Bool.false_eq_true, if_false]
  show wpAny _ _ (if (Value.ref d == Value.none) = true then _ else _) _ _ _
  rw [if_neg (by intro z; cases z)]
  refine wpAny_bind (wpAny_pure (wpAny_bind (wpAny_dictEntries ec dc ?_)))
  rw [if_neg (by simp)]
  refine wpAny_bind (wpAny_pure (wpAny_bind (wpAny_dictEpoch ec dc ?_)))
  rw [if_neg (by simp)]
  refine wpAny_pure ?_
  simp only [show ¬ ((i : Int) < 0) by omega, if_false, Int.toNat_natCast, hx]
  refine wpAny_bind (wpAny_bind (wpAny_typeNameOfWhole_keyiter st.typeIs (wpAny_pure ?_)))
  show wpAny _ _ (setField (.ref it) 0 Value.none >>= _) _ _ _
  refine wpAny_bind (wpAny_setField eb db (by simp) ?_)
  show wpAny _ _ (newExc (.type "StopIteration") ([] : List Value) >>= _) _ _ _
  refine wpAny_bind ?_
  simp only [newExc, newTuple]
  refine wpAny_bind (wpAny_newObj_type (wpAny_bind (m := firstArgMember _ _) (wpAny_of_eq (a := .none) (by first | rfl | (simp only [firstArgMember]; rfl)) (wpAny_newObj_type ?_ (by size_fits)))) (by size_fits))
  simp only [raiseNew]
  refine wpAny_bind (wpAny_handled ?_)
  rw [show A.in1.handled = none from hh]
  refine wpAny_bind (wpAny_pure (wpAny_throw ?_))
  refine wpAny_bind (wpAny_isInstance (b := true) (T := "StopIteration") ⟨_, Heap.get?_push_size _ rfl, rfl⟩ isSubtype_stop ?_)
  exact wpAny_pure (q _ (((Heap.SameBut.update ..).extBut.push _).push _))
theorem rd_walks (hh : A.handled = none) (hne : d ≠ it) (es : Array DictEntry) (p : Nat) :
    Walks prog w A it [it, d] [it] es.size (fun i v => ∃ e, es[i]? = some e ∧ v = e.key) (fun i h => h.IsKeyIter it d i es.size p ∧ RawD d es p h) where
  sub := fun b hb => by simp at hb; simp [hb]
  frame := fun _ _ _ st k => ⟨st.1.at fun o e => k it (by simp) o e, st.2.at fun o e => k d (by simp) o e⟩
  item := fun i s Q E hi st q => by
    have hx : es[i]? = some es[i] := by simp [hi]
    exact rd_item st.1 st.2 hx fun h' st' sb => q _ h' s.toks ⟨_, hx, rfl⟩ ⟨st', st.2.at fun o e => sb.extBut d o hne e⟩ fun b o hb e => sb.extBut b o (fun z => hb (by simp [z])) e
  done := fun s Q E st q => rd_end hh st.1 st.2 (by simp) fun h' eb => q h' s.toks fun b o hb e => eb b o (fun z => hb (by simp [z])) e
  self := fun _ _ _ _ st q => wpAny_pyIter_keyiter st.1 q
theorem rd_src (lo : (d == sysModules) = false) : KdlSrc prog w "dict" d d es.size (fun i v => ∃ e, es[i]? = some e ∧ v = e.key) (RawD d es p) where
  type := fun _ r => r.ty
  there := fun _ r => ⟨r.lt, r.lt⟩
  keep := fun _ _ r k => r.at fun o e => k d (.inl rfl) o e
  notList := by decide
  notTuple := by decide
  hint := fun _ _ _ _ r q => kdl_hint_dict r.ty q
  iter := fun _ _ hh r => ⟨_, _, fun _ _ q => rd_iter lo r q, rd_walks hh (Nat.ne_of_lt r.lt) es p, ⟨⟨_, Heap.get?_push_size _ rfl, rfl, rfl⟩, r.at fun o e => Heap.get?_push_of_some _ e⟩⟩
end
end L3

/-! Dicts: len, list, sorted. -/
namespace L3
open PySem PySem.Spec PyProof.Rows L2 PySem.W
section
variable {prog : Program} {w : World} {A : Around} {E : Value → Shared → Prop} {s : Shared} {d : Addr} {es : Array DictEntry} {p : Nat}
end
end L3

/-! Dicts in calls: len(d), list(d), sorted(d). -/
namespace L3
open PySem PySem.Spec PyProof.Rows L2 PySem.W
theorem paired_at {α β : Type} {F : α → β → Prop} : ∀ {l : List α} {m : List β} {i : Nat} {a : α}, Paired F l m → l[i]? = some a → ∃ b, m[i]? = some b ∧ F a b
  | _, _, _, _, .nil, e => by simp at e
  | _, _, 0, _, .cons r _, e => by simp at e; subst e; exact ⟨_, rfl, r⟩
  | _, _, i + 1, a, .cons _ t, e => by
    obtain ⟨b, h1, h2⟩ := paired_at (i := i) (a := a) t (by simpa using e)
    exact ⟨b, by simpa using h1, h2⟩
theorem vals_by {ys : List V} {us : List Value} (hl : us.length = ys.length) (h : ∀ (i : Nat) (u : Value) (y : V), us[i]? = some u → ys[i]? = some y → RelV y u) : Vals ys us := by
  induction ys generalizing us with
  | nil => cases us with | nil => exact .nil | cons _ _ => cases hl
  | cons y ys ih =>
    cases us with
    | nil => cases hl
    | cons u us => exact .cons (h 0 u y rfl rfl) (ih (Nat.succ.inj hl) fun i u' y' e1 e2 => h (i + 1) u' y' (by simpa using e1) (by simpa using e2))
section
variable {X : Cx} {pins : List (Addr × Obj)} {σ : L2.St} {H : Hp} {s : Shared} {a : Addr}
theorem raw_k {kvs : List (Key × V)} (I : Inv X pins σ H s) (e : H a = some (.dK kvs)) : kvs.length ≤ sizeLine ∧ (a == sysModules) = false ∧ ∃ es p, RawD a es p s.heap ∧ es.size = kvs.length ∧ ∀ (i : Nat) (x : DictEntry) (kv : Key × V), es[i]? = some x → kvs[i]? = some kv → RelV (kV kv.1) x.key := by
  obtain ⟨z, lo, vs, r, o, es, p, h1, h2, h3, h4, h5, h6⟩ := (show ObjOk X.prog X.w H s.heap a (.dK kvs) from I.hok a _ e)
  have hsz : es.size = kvs.length := by rw [r.length, ← h5.length]; simp
  refine ⟨z, lo, es, p, ⟨o, h1, h2, h3⟩, hsz, fun i x kv ex ek => ?_⟩
  obtain ⟨q, hq, ⟨e1, _⟩⟩ := paired_at r ek
  have hk := (h5.get? (i := i) (e := x) (k := q.1) (v := q.2) (by rw [Array.getElem?_toList]; exact ex) hq).1
  rw [e1]
  rcases keyIs_shape hk with ⟨n, t, h7, h8⟩ | ⟨n, t, h7, h8⟩
  · rw [h7, h8]; exact ⟨t, rfl⟩
  · rw [h7, h8]; exact ⟨t, rfl⟩
theorem raw_t {kvs : List (List Key × V)} (I : Inv X pins σ H s) (e : H a = some (.dT kvs)) : kvs.length ≤ sizeLine ∧ (a == sysModules) = false ∧ ∃ es p, RawD a es p s.heap ∧ es.size = kvs.length ∧
    ∃ bs : List Addr, Paired (fun (kv : List Key × V) b => H b = some (.tup (kv.1.map kV))) kvs bs ∧ ∀ (i : Nat) (x : DictEntry) (b : Addr), es[i]? = some x → bs[i]? = some b → x.key = .ref b := by
  obtain ⟨z, lo, xs, r, o, es, p, h1, h2, h3, h4, h9⟩ := (show ObjOk X.prog X.w H s.heap a (.dT kvs) from I.hok a _ e)
  have hsz : es.size = kvs.length := by rw [Paired.length r, ← Array.length_toList, h4, List.length_map]
  refine ⟨z, lo, es, p, ⟨o, h1, h2, h3⟩, hsz, xs.map (·.2.1), ?_, fun i x b ex eb => ?_⟩
  · clear h4 h9 hsz z e
    induction r with
    | nil => exact .nil
    | cons q _ ih => exact .cons q.2.1 ih
  · rw [← Array.getElem?_toList, h4, List.getElem?_map] at ex
    rw [List.getElem?_map] at eb
    cases hx : xs[i]? with
    | none => rw [hx] at eb; cases eb
    | some q =>
      rw [hx] at ex eb
      cases ex
      cases eb
      rfl
def rListD : List V → Hp → VK → Prop := fun xs H Q => ∃ a, xs = [.ref a] ∧
  ((∃ kvs, H a = some (.dK kvs) ∧ ∀ l, H l = none → Q (.ref l) (upd H l (.lst (kvs.map fun kv => kV kv.1)))) ∨
   ∃ kvs, H a = some (.dT kvs) ∧ ∀ (bs : List Addr) l, Paired (fun (kv : List Key × V) b => H b = some (.tup (kv.1.map kV))) kvs bs → H l = none → Q (.ref l) (upd H l (.lst (bs.map V.ref))))
theorem call_list_d (hc : X.calm = true) : CallR X (.type "list") rListD := by
  intro pins s σ H xs us Q I r h
  obtain ⟨a, rfl, h⟩ := h
  obtain ⟨u, rfl, ru⟩ := vals1 r
  cases ru
  have fin : ∀ (ys : List V) (es : Array DictEntry) (h' : Heap) (tk : Nat) (acc : Array Value) (c : Nat), ys.length ≤ sizeLine → es.size = ys.length → (∀ (i : Nat) (x : DictEntry) (y : V), es[i]? = some x → ys[i]? = some y → RelV y x.key) →
      (∀ b o, s.heap.get? b = some o → h'.get? b = some o) → h'.get? s.heap.objs.size = some { cls := .type "list", dict := none, data := .seq acc c, slots := #[] } → ItemsOf (fun i v => ∃ e, es[i]? = some e ∧ v = e.key) acc es.size →
      (∀ l, H l = none → Q (.ref l) (upd H l (.lst ys))) → EP X pins σ Q (.ref s.heap.objs.size) { s with heap := h', toks := tk } := fun ys es h' tk acc c z hs hr kp e it q => by
    refine ⟨.ref s.heap.objs.size, _, I.laid (t' := tk) (o := .lst ys) kp (Nat.le_refl _) ⟨z, acc.toList, c, vals_by (by rw [Array.length_toList, it.1, hs]) fun i u y e1 e2 => ?_, ?_⟩, rfl, q _ (I.hok.fresh (Nat.le_refl _))⟩
    · obtain ⟨x, ex, rfl⟩ := it.2 i u (by rw [← Array.getElem?_toList]; exact e1)
      exact hr i x y ex e2
    · rw [Array.toArray_toList]; exact e
  rcases h with ⟨kvs, e, q⟩ | ⟨kvs, e, q⟩
  · obtain ⟨z, lo, es, p, rr, hs, hr⟩ := raw_k I e
    refine kdl_call (rd_src (p := p) lo) (I.ok.hd hc) rr (by rw [hs]; exact z) fun h' tk acc c kp e' it => fin _ es h' tk acc c (by rw [List.length_map]; exact z) (by rw [List.length_map]; exact hs) (fun i x y ex ey => ?_) kp e' it q
    rw [List.getElem?_map] at ey
    cases hk : kvs[i]? with
    | none => rw [hk] at ey; cases ey
    | some kv => rw [hk] at ey; cases ey; exact hr i x kv ex hk
  · obtain ⟨z, lo, es, p, rr, hs, bs, pb, hr⟩ := raw_t I e
    have hb := Paired.length pb
    refine kdl_call (rd_src (p := p) lo) (I.ok.hd hc) rr (by rw [hs]; exact z) fun h' tk acc c kp e' it => fin _ es h' tk acc c (by rw [List.length_map, ← hb]; exact z) (by rw [List.length_map, ← hb]; exact hs) (fun i x y ex ey => ?_) kp e' it fun l hl => q bs l pb hl
    rw [List.getElem?_map] at ey
    cases hk : bs[i]? with
    | none => rw [hk] at ey; cases ey
    | some b => rw [hk] at ey; cases ey; exact hr i x b ex hk
end
end L3
namespace L3
open PySem PySem.Spec PyProof.Rows L2
end L3

/-! isinstance of deep data. -/
namespace L3
open PySem PySem.Spec PyProof.Rows L2
def tyN : D → String
  | .non => "NoneType"
  | .bl _ => "bool"
  | .int _ => "int"
  | .str _ => "str"
  | .tup _ => "tuple"
  | .lst _ => "list"
def isT (d : D) (T : String) : Bool := match d with
  | .non => T == "NoneType"
  | .bl _ => T == "bool" || T == "int"
  | .int _ => T == "int"
  | .str _ => T == "str"
  | .tup _ => T == "tuple"
  | .lst _ => T == "list"
theorem kit_isT {K : PySem.W.Frag} (d : D) {T : String} (h : T = "tuple" ∨ T = "int" ∨ T = "bool" ∨ T = "str" ∨ T = "list") : PySem.W.kitOne K (.type (tyN d)) (.type T) = some (isT d T) := by
  rcases h with rfl | rfl | rfl | rfl | rfl <;> cases d <;> rfl
section
variable {X : Cx}
theorem call_isinstD : CallR X (.builtin "isinstance") (fun xs H Q => ∃ x d T, xs = [x, .ty T] ∧ Rep X.K H d x ∧ (T = "tuple" ∨ T = "int" ∨ T = "bool" ∨ T = "str" ∨ T = "list") ∧ Q (.bl (isT d T)) H) := by
  intro pins s σ H xs us Q I r h
  obtain ⟨x, d, T, rfl, rep, hT, q⟩ := h
  obtain ⟨u, w', rfl, rx, rt⟩ := vals2 r
  cases rt
  have k := kit_isT (K := X.K) d hT
  have fin : ∀ tk, EP X pins σ Q (.bool (isT d T)) { s with toks := tk } := fun tk => ⟨.bl (isT d T), H, I.tok _, rfl, q⟩
  cases d with
  | non => unfold Rep at rep; subst rep; exact isinst_ok I rx .non k fin
  | bl b => unfold Rep at rep; subst rep; exact isinst_ok I rx (.bl b) k fin
  | int i => unfold Rep at rep; subst rep; exact isinst_ok I rx (.int i) k fin
  | str y => unfold Rep at rep; subst rep; exact isinst_ok I rx (.str y) k fin
  | tup ds =>
    unfold Rep at rep
    obtain ⟨a, ys, rfl, hq, _⟩ := rep
    cases (show u = Value.ref a from rx)
    obtain ⟨its, _, p, _⟩ := I.tuple hq
    obtain ⟨o, h1, h2, _⟩ := p
    exact PySem.W.kia_one PySem.W.kitx_tuple I.kIn ⟨o, h1, h2⟩ k (fun z => nomatch z) fin
  | lst ds =>
    unfold Rep at rep
    obtain ⟨a, ys, rfl, hq, _⟩ := rep
    cases (show u = Value.ref a from rx)
    obtain ⟨its, _, p, _⟩ := I.list hq
    obtain ⟨o, h1, h2, _⟩ := p.isList
    exact PySem.W.kia_one PySem.W.kitx_list I.kIn ⟨o, h1, h2⟩ k (fun z => nomatch z) fin
end
end L3
namespace L3
open PySem PySem.Spec PyProof.Rows L2
section
variable {X : Cx}
end
end L3

/-! zip of a tuple and a list, walked with a pair of names. -/
namespace L3
open PySem PySem.Spec PyProof.Rows L2 PySem.W
section
variable {prog : Program} {w : World} {A : Around} {E : Value → Shared → Prop} {s : Shared}
variable {z TI TO i1 i2 : Addr} {f1 f2 : List Addr} {xs ys : Array Value} {S1 S2 : Nat → Heap → Prop}
end
section
variable {X : Cx} {pins : List (Addr × Obj)} {σ : List (Option V)} {H : Hp} {s : Shared} {h' : Heap}
end
section
variable {prog : Program} {w : World} {A : Around} {E : Value → Shared → Prop} {s : Shared}
end
section
variable {X : Cx}
end
end L3

/-! x[::-1] of a text. -/
namespace L3
open PySem PySem.Spec PyProof.Rows L2
section
variable {X : Cx} {e st : Expr} {te ts : TE} {pos p2 : Pos}
end
end L3

/-! the fragment named outright, everywhere: the readings are shorter so. -/
namespace L3
open PySem PySem.Spec PyProof.Rows L2
theorem kPI {X : Cx} {K : PySem.W.Frag} {tg it : Expr} (f : PySem.W.Frag → TI) (h : PI X tg it (f X.K)) (e : X.K = K := by rfl) : PI X tg it (f K) := e ▸ h
theorem kPE {X : Cx} {K : PySem.W.Frag} {ex : Expr} (f : PySem.W.Frag → TE) (h : PE X ex (f X.K)) (e : X.K = K := by rfl) : PE X ex (f K) := e ▸ h
theorem kPG {X : Cx} {K : PySem.W.Frag} {tg : Expr} (f : PySem.W.Frag → TG) (h : PG X tg (f X.K)) (e : X.K = K := by rfl) : PG X tg (f K) := e ▸ h
theorem kCall {X : Cx} {K : PySem.W.Frag} {f : Value} (r : PySem.W.Frag → List V → Hp → VK → Prop) (h : CallR X f (r X.K)) (e : X.K = K := by rfl) : CallR X f (r K) := e ▸ h
def rLo (K : PySem.W.Frag) : List V → Hp → VK → Prop := fun xs H Q => ∃ p ys, xs = [.ref p] ∧ (SqL K H p ys ∨ SqT K H p ys) ∧ ∀ l, H l = none → Q (.ref l) (upd H l (.lst ys))
def rIsX (K : PySem.W.Frag) : List V → Hp → VK → Prop := fun xs H Q => ∃ x C y u b, xs = [.ref x, y] ∧ H x = some (Exc x C) ∧ XCls K C ∧ clsV y = some u ∧ PySem.W.kitOne K (.ref C) u = some b ∧ Q (.bl b) H
def rIsD (K : PySem.W.Frag) : List V → Hp → VK → Prop := fun xs H Q => ∃ x d T, xs = [x, .ty T] ∧ Rep K H d x ∧ (T = "tuple" ∨ T = "int" ∨ T = "bool" ∨ T = "str" ∨ T = "list") ∧ Q (.bl (isT d T)) H
end L3

namespace My
open PySem PySem.Spec PyProof.Rows L2 L3
def top (i : Nat) : Stmt := PySem.Challenge.pw_earlyscribe_k68_both_refused.main.body.getD i (.Pass ⟨0, 0, 0, 0⟩)
abbrev s_refuse_other_signs : Stmt := top 17
abbrev s_refuse_many_pairs : Stmt := top 18
abbrev s_each_once : Stmt := top 20
abbrev s_either_of : Stmt := top 22
abbrev s_kept_marks : Stmt := top 23
abbrev s_moves_by_sign : Stmt := top 24
abbrev s_kept_steps : Stmt := top 25
abbrev s_kept_to : Stmt := top 26
abbrev s_law_cell_at : Stmt := top 28
abbrev s_law_mixed : Stmt := top 29
abbrev s_law_copy : Stmt := top 30
abbrev s_law_alone : Stmt := top 31
abbrev s_law_few : Stmt := top 32
abbrev s_law_rooms : Stmt := top 33
abbrev s_law_refusal : Stmt := top 34
abbrev s_law : Stmt := top 35
structure Bi (mg : Str → Option Value) : Prop where
  ValueError : mg "ValueError" = none
  int : mg "int" = none
  isinstance : mg "isinstance" = none
  len : mg "len" = none
  list : mg "list" = none
  max : mg "max" = none
  min : mg "min" = none
  range : mg "range" = none
  tuple : mg "tuple" = none
  BEGINS : ∃ t, mg "BEGINS" = some (.int 2 t)
  ENDS : ∃ t, mg "ENDS" = some (.int 4 t)
  MOST_ROOMS : ∃ t, mg "MOST_ROOMS" = some (.int 200 t)
  ROOMS : ∃ t, mg "ROOMS" = some (.int 1 t)
  SIGNS : ∃ t, mg "SIGNS" = some (.int 0 t)
  STEPS : ∃ t, mg "STEPS" = some (.int 3 t)
structure Xb (K : PySem.W.Frag) (mg : Str → Option Value) (c_ScribeError c_NoWay c_NoRoom c_NotPlain c_OtherSigns c_TooMany c_TwoWays c_NeverPlain c_NoText : Addr) : Prop where
  nm_ScribeError : mg "ScribeError" = some (.ref c_ScribeError)
  nm_NoWay : mg "NoWay" = some (.ref c_NoWay)
  nm_NoRoom : mg "NoRoom" = some (.ref c_NoRoom)
  nm_NotPlain : mg "NotPlain" = some (.ref c_NotPlain)
  nm_OtherSigns : mg "OtherSigns" = some (.ref c_OtherSigns)
  nm_TooMany : mg "TooMany" = some (.ref c_TooMany)
  nm_TwoWays : mg "TwoWays" = some (.ref c_TwoWays)
  nm_NeverPlain : mg "NeverPlain" = some (.ref c_NeverPlain)
  nm_NoText : mg "NoText" = some (.ref c_NoText)
  own_OtherSigns : OwnX K mg "OtherSigns" c_OtherSigns
  xc_OtherSigns : XCls K c_OtherSigns
  own_TooMany : OwnX K mg "TooMany" c_TooMany
  xc_TooMany : XCls K c_TooMany
  cl_OtherSigns : Clause K mg "OtherSigns" c_OtherSigns
  sub_OtherSigns_OtherSigns : PySem.W.mroIn K c_OtherSigns (.ref c_OtherSigns) = some true
  sub_TooMany_OtherSigns : PySem.W.mroIn K c_TooMany (.ref c_OtherSigns) = some false
  cl_TooMany : Clause K mg "TooMany" c_TooMany
  sub_OtherSigns_TooMany : PySem.W.mroIn K c_OtherSigns (.ref c_TooMany) = some false
  sub_TooMany_TooMany : PySem.W.mroIn K c_TooMany (.ref c_TooMany) = some true
  is_OtherSigns_NoText : PySem.W.kitOne K (.ref c_OtherSigns) (.ref c_NoText) = some false
  is_OtherSigns_NeverPlain : PySem.W.kitOne K (.ref c_OtherSigns) (.ref c_NeverPlain) = some false
  is_OtherSigns_TwoWays : PySem.W.kitOne K (.ref c_OtherSigns) (.ref c_TwoWays) = some false
  is_OtherSigns_TooMany : PySem.W.kitOne K (.ref c_OtherSigns) (.ref c_TooMany) = some false
  is_OtherSigns_OtherSigns : PySem.W.kitOne K (.ref c_OtherSigns) (.ref c_OtherSigns) = some true
  is_OtherSigns_NotPlain : PySem.W.kitOne K (.ref c_OtherSigns) (.ref c_NotPlain) = some false
  is_OtherSigns_NoRoom : PySem.W.kitOne K (.ref c_OtherSigns) (.ref c_NoRoom) = some false
  is_OtherSigns_NoWay : PySem.W.kitOne K (.ref c_OtherSigns) (.ref c_NoWay) = some false
  is_OtherSigns_ScribeError : PySem.W.kitOne K (.ref c_OtherSigns) (.ref c_ScribeError) = some true
  iv_OtherSigns_ValueError : PySem.W.kitOne K (.ref c_OtherSigns) (.type "ValueError") = some true
  is_TooMany_NoText : PySem.W.kitOne K (.ref c_TooMany) (.ref c_NoText) = some false
  is_TooMany_NeverPlain : PySem.W.kitOne K (.ref c_TooMany) (.ref c_NeverPlain) = some false
  is_TooMany_TwoWays : PySem.W.kitOne K (.ref c_TooMany) (.ref c_TwoWays) = some false
  is_TooMany_TooMany : PySem.W.kitOne K (.ref c_TooMany) (.ref c_TooMany) = some true
  is_TooMany_OtherSigns : PySem.W.kitOne K (.ref c_TooMany) (.ref c_OtherSigns) = some false
  is_TooMany_NotPlain : PySem.W.kitOne K (.ref c_TooMany) (.ref c_NotPlain) = some false
  is_TooMany_NoRoom : PySem.W.kitOne K (.ref c_TooMany) (.ref c_NoRoom) = some false
  is_TooMany_NoWay : PySem.W.kitOne K (.ref c_TooMany) (.ref c_NoWay) = some false
  is_TooMany_ScribeError : PySem.W.kitOne K (.ref c_TooMany) (.ref c_ScribeError) = some true
  iv_TooMany_ValueError : PySem.W.kitOne K (.ref c_TooMany) (.type "ValueError") = some true

local macro_rules | `(tactic| walk_at "side") => `(tactic| first | exact pz | exact ⟨pz, pz⟩ | exact .inr ⟨by decide, by decide⟩ | exact ⟨by omega, by omega⟩ | exact .inl ⟨by omega, by omega⟩ | exact .inr ⟨by omega, by omega⟩ | (show (0 : Int) < _; omega) | exact szl (by simp) | exact szl (by omega))
local macro_rules | `(tactic| walk_at "r") => `(tactic| first | refine ⟨_, rfl, ?_⟩ | refine ⟨_, _, rfl, rfl, ?_⟩ | refine ⟨rfl, ?_⟩ | refine ⟨by walk_at "side", ?_⟩)
local macro_rules | `(tactic| walk_at "rd") => `(tactic| repeat walk_at "r")

def isNum (lo hi : Int) (v : V) : Prop := ∃ n : Int, v = .int n ∧ lo ≤ n ∧ n ≤ hi
theorem szl' {n : Nat} (h : n ≤ 99999) : n < sizeLine := Nat.lt_of_lt_of_le (Nat.lt_succ_of_le h) (szl (by omega))
def Wd (x : Str) : Prop := x.length ≤ 40 ∧ ∀ c ∈ cl x, 97 ≤ c ∧ c ≤ 122
structure OkS (pl : Bool) (s : Scr) (n : Nat) : Prop where
  lb : s.begins.length ≤ n
  ls : s.steps.length ≤ n
  le : s.ends.length ≤ n
  mb : ∀ m ∈ s.begins, 0 ≤ m.1 ∧ m.1 < s.rooms ∧ Wd m.2
  ms : ∀ t ∈ s.steps, 0 ≤ t.1 ∧ t.1 < s.rooms ∧ (∃ c ∈ cl s.signs, t.2.1 = ⟨#[c]⟩) ∧ Wd t.2.2.1 ∧ 0 ≤ t.2.2.2 ∧ t.2.2.2 < s.rooms
  me : ∀ m ∈ s.ends, 0 ≤ m.1 ∧ m.1 < s.rooms ∧ Wd m.2
  nb : s.begins.Nodup
  ns : s.steps.Nodup
  ne : s.ends.Nodup
  pb : pl = true → s.begins.length ≤ 1
  po : pl = true → (s.steps.map fun t => (t.1, t.2.1)).Nodup
  pe : pl = true → (s.ends.map (·.1)).Nodup
theorem OkS.mono {pl : Bool} {s : Scr} {n m : Nat} (h : OkS pl s n) (le : n ≤ m) : OkS pl s m :=
  ⟨Nat.le_trans h.lb le, Nat.le_trans h.ls le, Nat.le_trans h.le le, h.mb, h.ms, h.me, h.nb, h.ns, h.ne, h.pb, h.po, h.pe⟩
theorem nodup_snoc {α : Type} {xs : List α} {x : α} (h : xs.Nodup) (hn : x ∉ xs) : (xs ++ [x]).Nodup := by
  rw [List.nodup_append]
  refine ⟨h, by simp, fun a ha b hb => ?_⟩
  rw [List.mem_singleton] at hb
  subst hb
  intro e; subst e; exact hn ha
theorem OkS.begin {pl : Bool} {g : Str} {r : Int} {B : List Mk} {S : List Stp} {E : List Mk} {n : Nat} (h : OkS pl ⟨g, r, B, S, E⟩ n) {i : Int} {x : Str} (h0 : 0 ≤ i) (h1 : i < r) (hw : Wd x) (hn : (i, x) ∉ B) (hp : pl = true → B.length = 0) : OkS pl ⟨g, r, B ++ [(i, x)], S, E⟩ (n + 1) := by
  have ha := h.mono (Nat.le_succ n)
  refine ⟨?_, ha.ls, ha.le, fun m hm => ?_, h.ms, h.me, nodup_snoc h.nb hn, h.ns, h.ne, fun q => ?_, h.po, h.pe⟩
  · show (B ++ [(i, x)]).length ≤ n + 1
    have : B.length ≤ n := h.lb
    rw [List.length_append, List.length_singleton]; omega
  · rcases List.mem_append.mp hm with hm | hm
    · exact h.mb m hm
    · rw [List.mem_singleton.mp hm]; exact ⟨h0, h1, hw⟩
  · show (B ++ [(i, x)]).length ≤ 1
    rw [List.length_append, hp q, List.length_singleton]; omega
theorem OkS.end_ {pl : Bool} {g : Str} {r : Int} {B : List Mk} {S : List Stp} {E : List Mk} {n : Nat} (h : OkS pl ⟨g, r, B, S, E⟩ n) {i : Int} {x : Str} (h0 : 0 ≤ i) (h1 : i < r) (hw : Wd x) (hn : (i, x) ∉ E) (hp : pl = true → ∀ m ∈ E, m.1 ≠ i) : OkS pl ⟨g, r, B, S, E ++ [(i, x)]⟩ (n + 1) := by
  have ha := h.mono (Nat.le_succ n)
  refine ⟨ha.lb, ha.ls, ?_, h.mb, h.ms, fun m hm => ?_, h.nb, h.ns, nodup_snoc h.ne hn, h.pb, h.po, fun q => ?_⟩
  · show (E ++ [(i, x)]).length ≤ n + 1
    have : E.length ≤ n := h.le
    rw [List.length_append, List.length_singleton]; omega
  · rcases List.mem_append.mp hm with hm | hm
    · exact h.me m hm
    · rw [List.mem_singleton.mp hm]; exact ⟨h0, h1, hw⟩
  · show ((E ++ [(i, x)]).map (·.1)).Nodup
    rw [List.map_append]
    refine nodup_snoc (h.pe q) fun hm => ?_
    obtain ⟨m, hm, e⟩ := List.mem_map.mp hm
    exact hp q m hm e
theorem OkS.step {pl : Bool} {g : Str} {r : Int} {B : List Mk} {S : List Stp} {E : List Mk} {n : Nat} (h : OkS pl ⟨g, r, B, S, E⟩ n) {i j : Int} {y x : Str} (h0 : 0 ≤ i) (h1 : i < r) (hy : ∃ c ∈ cl g, y = ⟨#[c]⟩) (hw : Wd x) (h2 : 0 ≤ j) (h3 : j < r) (hn : (i, y, x, j) ∉ S) (hp : pl = true → ∀ t ∈ S, ¬ (t.1 = i ∧ t.2.1 = y)) :
    OkS pl ⟨g, r, B, S ++ [(i, y, x, j)], E⟩ (n + 1) := by
  have ha := h.mono (Nat.le_succ n)
  refine ⟨ha.lb, ?_, ha.le, h.mb, fun t ht => ?_, h.me, h.nb, nodup_snoc h.ns hn, h.ne, h.pb, fun q => ?_, h.pe⟩
  · show (S ++ [(i, y, x, j)]).length ≤ n + 1
    have : S.length ≤ n := h.ls
    rw [List.length_append, List.length_singleton]; omega
  · rcases List.mem_append.mp ht with hm | hm
    · exact h.ms t hm
    · rw [List.mem_singleton.mp hm]; exact ⟨h0, h1, hy, hw, h2, h3⟩
  · show ((S ++ [(i, y, x, j)]).map fun t => (t.1, t.2.1)).Nodup
    rw [List.map_append]
    refine nodup_snoc (h.po q) fun hm => ?_
    obtain ⟨t, hm, e⟩ := List.mem_map.mp hm
    injection e with e1 e2
    exact hp q t hm ⟨e1, e2⟩
def HI (K : PySem.W.Frag) (H0 : Hp) (pb ps pe : Addr) (pl : Bool) (g : Str) (r : Int) (n : Nat) (H : Hp) : Prop := ∃ B S E xb xs xe, Same H0 H ∧ H pb = some (.lst xb) ∧ H ps = some (.lst xs) ∧ H pe = some (.lst xe) ∧
  Paired (MkV K H) B xb ∧ Paired (StV K H) S xs ∧ Paired (MkV K H) E xe ∧ OkS pl ⟨g, r, B, S, E⟩ n
theorem same_updN {H0 H : Hp} {p : Addr} {o : HO} (g : Same H0 H) (h : H0 p = none) : Same H0 (upd H p o) := fun b u q => by rw [upd_ne (ne_of_none q h)]; exact g b u q
theorem HI.mono {K : PySem.W.Frag} {H0 H H' : Hp} {pb ps pe : Addr} {pl : Bool} {g : Str} {r : Int} {n m : Nat} (h : HI K H0 pb ps pe pl g r n H) (s : Same H H') (le : n ≤ m) : HI K H0 pb ps pe pl g r m H' := by
  obtain ⟨B, S, E, xb, xs, xe, h1, h2, h3, h4, h5, h6, h7, h8⟩ := h
  have g' := Same.grow s
  exact ⟨B, S, E, xb, xs, xe, h1.trans s, s _ _ h2, s _ _ h3, s _ _ h4, paired_mono (fun _ _ => MkV.mono g') h5, paired_mono (fun _ _ => StV.mono g') h6, paired_mono (fun _ _ => MkV.mono g') h7, h8.mono le⟩
structure Apart (H0 : Hp) (pb ps pe : Addr) : Prop where
  nb : H0 pb = none
  ns : H0 ps = none
  ne : H0 pe = none
  bs : pb ≠ ps
  be : pb ≠ pe
  se : ps ≠ pe
def cellAt (ns : List Int) (k : Int) : Int := if k < ns.length then (ns[k.toNat]?).getD 0 else 0
def spCell (K : PySem.W.Frag) : Sp := fun vs H Q _ => ∃ (a : Addr) (ns : List Int) (k : Int), vs = [.ref a, .int k] ∧ SqL K H a (ns.map V.int) ∧ 0 ≤ k ∧ Q (.int (cellAt ns k)) H
def ScN (K : PySem.W.Frag) (H : Hp) (s : Scr) (v : V) (pb ps pe : Addr) : Prop := ∃ a xb xs xe, v = .ref a ∧ SqT K H a [.str s.signs, .int s.rooms, .ref pb, .ref ps, .ref pe] ∧ H pb = some (.lst xb) ∧ H ps = some (.lst xs) ∧ H pe = some (.lst xe) ∧
  Paired (MkV K H) s.begins xb ∧ Paired (StV K H) s.steps xs ∧ Paired (MkV K H) s.ends xe
theorem ScN.v {K : PySem.W.Frag} {H : Hp} {s : Scr} {v : V} {pb ps pe : Addr} : ScN K H s v pb ps pe → ScV K H s v pb ps pe
  | ⟨a, xb, xs, xe, e, h1, h2, h3, h4, h5, h6, h7⟩ => ⟨a, xb, xs, xe, e, h1, SqL.of h2, SqL.of h3, SqL.of h4, h5, h6, h7⟩
def spCopied (K : PySem.W.Frag) : Sp := fun vs H Q _ => ∃ v s pb ps pe, vs = [v] ∧ ScV K H s v pb ps pe ∧ ∀ v' H' pb' ps' pe', Same H H' → ScN K H' s v' pb' ps' pe' → Apart H pb' ps' pe' → Q v' H'

theorem iteB {b : Bool} {A B : Prop} (h1 : b = true → A) (h2 : b = false → B) : if b = true then A else B := by
  cases b
  · exact iteF (h2 rfl)
  · exact iteT (h1 rfl)
def SgnOk (g : Str) : Prop := 1 ≤ g.length ∧ g.length ≤ 5 ∧ (cl g).Nodup ∧ ∀ c ∈ cl g, 97 ≤ c ∧ c ≤ 122
def isSgn (v : V) : Prop := ∃ g : Str, v = .str g ∧ SgnOk g
theorem HI.addStep {K : PySem.W.Frag} {H0 H : Hp} {pb ps pe : Addr} {pl : Bool} {g : Str} {r : Int} {n : Nat} {B : List Mk} {S : List Stp} {E : List Mk} {xb xs xe : List V} {t : Stp} {v : V} (A : Apart H0 pb ps pe) (h1 : Same H0 H) (h2 : H pb = some (.lst xb)) (h3 : H ps = some (.lst xs)) (h4 : H pe = some (.lst xe))
    (h5 : Paired (MkV K H) B xb) (h6 : Paired (StV K H) S xs) (h7 : Paired (MkV K H) E xe) (h8 : OkS pl ⟨g, r, B, S ++ [t], E⟩ n) (hv : StV K H t v) : HI K H0 pb ps pe pl g r n (upd H ps (.lst (xs ++ [v]))) := by
  have gr := grow_upd h3 (.lst (xs ++ [v]))
  exact ⟨B, S ++ [t], E, xb, xs ++ [v], xe, same_updN h1 A.ns, by rw [upd_ne A.bs]; exact h2, upd_same, by rw [upd_ne A.se.symm]; exact h4, paired_mono (fun _ _ => MkV.mono gr) h5,
    paired_append (paired_mono (fun _ _ => StV.mono gr) h6) (.cons (StV.mono gr hv) .nil), paired_mono (fun _ _ => MkV.mono gr) h7, h8⟩
theorem HI.addEnd {K : PySem.W.Frag} {H0 H : Hp} {pb ps pe : Addr} {pl : Bool} {g : Str} {r : Int} {n : Nat} {B : List Mk} {S : List Stp} {E : List Mk} {xb xs xe : List V} {t : Mk} {v : V} (A : Apart H0 pb ps pe) (h1 : Same H0 H) (h2 : H pb = some (.lst xb)) (h3 : H ps = some (.lst xs)) (h4 : H pe = some (.lst xe))
    (h5 : Paired (MkV K H) B xb) (h6 : Paired (StV K H) S xs) (h7 : Paired (MkV K H) E xe) (h8 : OkS pl ⟨g, r, B, S, E ++ [t]⟩ n) (hv : MkV K H t v) : HI K H0 pb ps pe pl g r n (upd H pe (.lst (xe ++ [v]))) := by
  have gr := grow_upd h4 (.lst (xe ++ [v]))
  exact ⟨B, S, E ++ [t], xb, xs, xe ++ [v], same_updN h1 A.ne, by rw [upd_ne A.be]; exact h2, by rw [upd_ne A.se]; exact h3, upd_same, paired_mono (fun _ _ => MkV.mono gr) h5,
    paired_mono (fun _ _ => StV.mono gr) h6, paired_append (paired_mono (fun _ _ => MkV.mono gr) h7) (.cons (MkV.mono gr hv) .nil), h8⟩
theorem HI.addBegin {K : PySem.W.Frag} {H0 H : Hp} {pb ps pe : Addr} {pl : Bool} {g : Str} {r : Int} {n : Nat} {B : List Mk} {S : List Stp} {E : List Mk} {xb xs xe : List V} {t : Mk} {v : V} (A : Apart H0 pb ps pe) (h1 : Same H0 H) (h2 : H pb = some (.lst xb)) (h3 : H ps = some (.lst xs)) (h4 : H pe = some (.lst xe))
    (h5 : Paired (MkV K H) B xb) (h6 : Paired (StV K H) S xs) (h7 : Paired (MkV K H) E xe) (h8 : OkS pl ⟨g, r, B ++ [t], S, E⟩ n) (hv : MkV K H t v) : HI K H0 pb ps pe pl g r n (upd H pb (.lst (xb ++ [v]))) := by
  have gr := grow_upd h2 (.lst (xb ++ [v]))
  exact ⟨B ++ [t], S, E, xb ++ [v], xs, xe, same_updN h1 A.nb, upd_same, by rw [upd_ne A.bs.symm]; exact h3, by rw [upd_ne A.be.symm]; exact h4, paired_append (paired_mono (fun _ _ => MkV.mono gr) h5) (.cons (MkV.mono gr hv) .nil),
    paired_mono (fun _ _ => StV.mono gr) h6, paired_mono (fun _ _ => MkV.mono gr) h7, h8⟩
theorem notIn_mk {K : PySem.W.Frag} {H : Hp} {E : List Mk} {xe : List V} {m : Mk} (h : Paired (MkV K H) E xe) : Reps K H (E.map dMk) xe := reps_of (f := dMk) (F := MkV K H) (fun _ _ h => MkV.rep h) h
theorem reps_st {K : PySem.W.Frag} {H : Hp} {E : List Stp} {xe : List V} (h : Paired (StV K H) E xe) : Reps K H (E.map dSt) xe := reps_of (f := dSt) (F := StV K H) (fun _ _ h => StV.rep h) h
theorem take_get {α : Type} {xs : List α} {i : Nat} {x : α} (h : xs[i]? = some x) : xs.take (i + 1) = xs.take i ++ [x] := by rw [List.take_add_one, h]; rfl

def inR (n : Nat) (i : Int) : Prop := 0 ≤ i ∧ i < n
instance (n : Nat) (i : Int) : Decidable (inR n i) := inferInstanceAs (Decidable (_ ∧ _))
theorem bt_ValueError : bootBuiltins "ValueError" = some (.type "ValueError") := by decide +kernel

def spMixed : Sp := fun vs H Q _ => ∃ c k : Int, vs = [.int c, .int k] ∧ ∀ n : Int, 0 ≤ n → n < 2147483587 → Q (.int n) H
def GT (H H' : Hp) : Prop := ∀ b xs, Rd H b (.tup xs) → Rd H' b (.tup xs)
theorem GT.trans {H H' H'' : Hp} (a : GT H H') (b : GT H' H'') : GT H H'' := fun c xs h => b c xs (a c xs h)
theorem GT.of {H H' : Hp} (g : Same H H') : GT H H' := fun b xs h => by
  rcases h with h | ⟨o, h⟩
  · exact .inl (g _ _ h)
  · exact .inr ⟨o, g _ _ h⟩
theorem gt_upd {H : Hp} {p : Addr} {o : HO} (h : H p = some o) (n1 : ∀ xs, o ≠ .tup xs) (n2 : ∀ u xs, o ≠ .frz u (.tup xs)) (o' : HO) : GT H (upd H p o') := fun b xs q => by
  have hne : b ≠ p := by
    rintro rfl
    rcases q with q | ⟨u, q⟩
    · rw [h] at q; exact n1 xs (Option.some.inj q)
    · rw [h] at q; exact n2 u xs (Option.some.inj q)
  unfold Rd
  rw [upd_ne hne]
  exact q
theorem gt_lst {H : Hp} {p : Addr} {xs : List V} (h : H p = some (.lst xs)) (o' : HO) : GT H (upd H p o') := gt_upd h (fun _ z => nomatch z) (fun _ _ z => nomatch z) o'
theorem GT.seqT {K : PySem.W.Frag} {H H' : Hp} {a : Addr} {xs : List V} (g : GT H H') (h : SqT K H a xs) : SqT K H' a xs := by
  rcases h with h | h
  · exact .inl (g _ _ h)
  · exact .inr h
theorem StV.gt {K : PySem.W.Frag} {H H' : Hp} {m : Stp} {v : V} (g : GT H H') : StV K H m v → StV K H' m v := fun ⟨b, e, h⟩ => ⟨b, e, g.seqT h⟩
theorem MkV.gt {K : PySem.W.Frag} {H H' : Hp} {m : Mk} {v : V} (g : GT H H') : MkV K H m v → MkV K H' m v := fun ⟨b, e, h⟩ => ⟨b, e, g.seqT h⟩
structure Bk {κ α : Type} [DecidableEq κ] (R : Hp → α → V → Prop) (key : α → κ) (H0 H : Hp) (d : Addr) (ts : List α) (kvs : List (κ × V)) : Prop where
  there : ∀ k v, valV kvs k = some v → ∃ l ys, v = .ref l ∧ H0 l = none ∧ l ≠ d ∧ H l = some (.lst ys) ∧ Paired (R H) (ts.filter fun t => decide (key t = k)) ys ∧ 0 < ys.length
  nokey : ∀ k, valV kvs k = none → ts.filter (fun t => decide (key t = k)) = []
  inj : ∀ k k' l, valV kvs k = some (.ref l) → valV kvs k' = some (.ref l) → k = k'
  len : kvs.length ≤ ts.length
theorem filter_snoc {α : Type} (p : α → Bool) (xs : List α) (x : α) : (xs ++ [x]).filter p = xs.filter p ++ if p x = true then [x] else [] := by
  rw [List.filter_append]
  congr 1
  by_cases h : p x = true
  · rw [if_pos h, List.filter_cons_of_pos h]; rfl
  · rw [if_neg h, List.filter_cons_of_neg h]; rfl
def addM {α : Type} [DecidableEq α] (acc : List α) (m : α) : List α := if m ∈ acc then acc else acc ++ [m]
def onceM {α : Type} [DecidableEq α] (xs : List α) : List α := xs.foldl addM []
theorem once_snoc {α : Type} [DecidableEq α] (xs : List α) (x : α) : onceM (xs ++ [x]) = addM (onceM xs) x := by unfold onceM; rw [List.foldl_append]; rfl
theorem once_len {α : Type} [DecidableEq α] (xs : List α) : (onceM xs).length ≤ xs.length := by
  have go : ∀ (xs acc : List α), (xs.foldl addM acc).length ≤ acc.length + xs.length := by
    intro xs
    induction xs with
    | nil => intro acc; exact Nat.le_refl _
    | cons x xs ih =>
      intro acc
      have h := ih (addM acc x)
      have : (addM acc x).length ≤ acc.length + 1 := by
        unfold addM; split
        · omega
        · rw [List.length_append]; exact Nat.le_refl _
      rw [List.foldl_cons, List.length_cons]; omega
  have := go xs []
  unfold onceM
  simpa using this
theorem put_keys {κ : Type} [DecidableEq κ] (kvs : List (κ × V)) (k : κ) (v : V) : (putK kvs k v).map (·.1) = addM (kvs.map (·.1)) k := by
  have hm : (kvs.any fun kv => decide (kv.1 = k)) = true ↔ k ∈ kvs.map (·.1) := by
    rw [List.any_eq_true, List.mem_map]
    exact ⟨fun ⟨x, h1, h2⟩ => ⟨x, h1, of_decide_eq_true h2⟩, fun ⟨x, h1, h2⟩ => ⟨x, h1, decide_eq_true h2⟩⟩
  unfold putK addM
  by_cases h : k ∈ kvs.map (·.1)
  · rw [if_pos (hm.mpr h), if_pos h, List.map_map]
    refine List.map_congr_left fun x _ => ?_
    show (if x.1 = k then _ else _ : κ × V).1 = x.1
    split
    · rename_i e; first | exact e.symm | rfl
    · rfl
  · rw [if_neg (fun z => h (hm.mp z)), if_neg h, List.map_append]; rfl
theorem add_map {α β : Type} [DecidableEq α] [DecidableEq β] {f : α → β} (inj : ∀ a b, f a = f b → a = b) (acc : List α) (m : α) : (addM acc m).map f = addM (acc.map f) (f m) := by
  have hm : f m ∈ acc.map f ↔ m ∈ acc := by
    rw [List.mem_map]
    exact ⟨fun ⟨x, h1, h2⟩ => inj _ _ h2 ▸ h1, fun h => ⟨m, h, rfl⟩⟩
  unfold addM
  by_cases h : m ∈ acc
  · rw [if_pos h, if_pos (hm.mpr h)]
  · rw [if_neg h, if_neg (fun z => h (hm.mp z)), List.map_append]; rfl

section
variable {κ α : Type} [DecidableEq κ] {R : Hp → α → V → Prop} {key : α → κ} {H0 H : Hp} {d : Addr} {ts : List α} {kvs : List (κ × V)}
theorem Bk.nil : Bk R key H0 H d [] ([] : List (κ × V)) := ⟨fun k v h => (by cases h), fun _ _ => rfl, fun k k' l h => (by cases h), Nat.le_refl _⟩
theorem Bk.mono {H' : Hp} (mono : ∀ (H H' : Hp) (t : α) (v : V), GT H H' → R H t v → R H' t v) (b : Bk R key H0 H d ts kvs) (g : Same H H') : Bk R key H0 H' d ts kvs :=
  ⟨fun k v h => let ⟨l, ys, e, h1, h2, h3, h4, h5⟩ := b.there k v h; ⟨l, ys, e, h1, h2, g _ _ h3, paired_mono (fun _ _ => mono _ _ _ _ (GT.of g)) h4, h5⟩, b.nokey, b.inj, b.len⟩
theorem Bk.put (mono : ∀ (H H' : Hp) (t : α) (v : V), GT H H' → R H t v → R H' t v) (b : Bk R key H0 H d ts kvs) {t : α} {y : V} {l : Addr} {ys : List V} (hv : valV kvs (key t) = some (.ref l)) (hl : H l = some (.lst ys)) (hy : R H t y) :
    Bk R key H0 (upd H l (.lst (ys ++ [y]))) d (ts ++ [t]) kvs := by
  have gr := gt_lst hl (.lst (ys ++ [y]))
  refine ⟨fun k v h => ?_, fun k h => ?_, b.inj, by rw [List.length_append]; exact Nat.le_add_right_of_le b.len⟩
  · obtain ⟨l', ys', rfl, h1, h2, h3, h4, h5⟩ := b.there k v h
    rw [filter_snoc]
    by_cases hk : key t = k
    · subst hk
      rw [hv] at h; cases h
      rw [hl] at h3; cases h3
      rw [if_pos (by simp)]
      exact ⟨l, ys ++ [y], rfl, h1, h2, upd_same, paired_append (paired_mono (fun _ _ => mono _ _ _ _ gr) h4) (.cons (mono _ _ _ _ gr hy) .nil), by rw [List.length_append]; omega⟩
    · have hne : l' ≠ l := fun e => hk (b.inj _ _ l hv (e ▸ h))
      rw [if_neg (by simpa using hk), List.append_nil]
      exact ⟨l', ys', rfl, h1, h2, by rw [upd_ne hne]; exact h3, paired_mono (fun _ _ => mono _ _ _ _ gr) h4, h5⟩
  · rw [filter_snoc, b.nokey k h]
    by_cases hk : key t = k
    · subst hk; rw [hv] at h; cases h
    · rw [if_neg (by simpa using hk)]; rfl
theorem Bk.new (mono : ∀ (H H' : Hp) (t : α) (v : V), GT H H' → R H t v → R H' t v) (b : Bk R key H0 H d ts kvs) {t : α} {y : V} {p : Addr} {o od : HO} (hv : valV kvs (key t) = none) (hp0 : H0 p = none) (hpd : p ≠ d) (hd : H d = some od) (n1 : ∀ xs, od ≠ .tup xs) (n2 : ∀ u xs, od ≠ .frz u (.tup xs)) (hpn : ∀ k, valV kvs k ≠ some (.ref p)) (hp : H p = some (.lst [])) (hy : R H t y) :
    Bk R key H0 (upd (upd H d o) p (.lst [y])) d (ts ++ [t]) (putK kvs (key t) (.ref p)) := by
  have g1 := gt_upd hd n1 n2 o
  have hp1 : upd H d o p = some (.lst []) := by rw [upd_ne hpd]; exact hp
  have gr := g1.trans (gt_lst hp1 (.lst [y]))
  refine ⟨fun k v h => ?_, fun k h => ?_, fun k k' l h h' => ?_, ?_⟩
  · rw [valV_put] at h
    rw [filter_snoc]
    by_cases hk : k = key t
    · subst hk
      rw [if_pos rfl] at h; cases h
      rw [if_pos (by simp), b.nokey _ hv]
      exact ⟨p, [y], rfl, hp0, hpd, upd_same, .cons (mono _ _ _ _ gr hy) .nil, Nat.zero_lt_one⟩
    · rw [if_neg hk] at h
      obtain ⟨l', ys', rfl, h1, h2, h3, h4, h5⟩ := b.there k v h
      have hne : l' ≠ p := fun e => hpn k (e ▸ h)
      rw [if_neg (by simpa using fun e => hk (Eq.symm e)), List.append_nil]
      exact ⟨l', ys', rfl, h1, h2, by rw [upd_ne hne, upd_ne h2]; exact h3, paired_mono (fun _ _ => mono _ _ _ _ gr) h4, h5⟩
  · rw [valV_put] at h
    by_cases hk : k = key t
    · rw [if_pos hk] at h; cases h
    · rw [if_neg hk] at h
      rw [filter_snoc, b.nokey k h, if_neg (by simpa using fun e => hk (Eq.symm e))]; rfl
  · rw [valV_put] at h h'
    by_cases hk : k = key t
    · rw [if_pos hk] at h; cases h
      by_cases hk' : k' = key t
      · rw [hk, hk']
      · rw [if_neg hk'] at h'; exact absurd h' (hpn k')
    · rw [if_neg hk] at h
      by_cases hk' : k' = key t
      · rw [if_pos hk'] at h'; cases h'; exact absurd h (hpn k)
      · rw [if_neg hk'] at h'; exact b.inj k k' l h h'
  · have h1 := length_putK kvs (key t) (.ref p)
    have h2 := b.len
    rw [List.length_append, List.length_singleton]; omega
end

def shM (r : Int) (m : Mk) : Mk := (m.1 + r, m.2)
def shT (r : Int) (t : Stp) : Stp := (t.1 + r, t.2.1, t.2.2.1, t.2.2.2 + r)
def eithS (s u : Scr) : Scr := ⟨s.signs, s.rooms + u.rooms, s.begins ++ u.begins.map (shM s.rooms), s.steps ++ u.steps.map (shT s.rooms), s.ends ++ u.ends.map (shM s.rooms)⟩
def Lens3 (s : Scr) : Prop := s.begins.length ≤ 999 ∧ s.steps.length ≤ 999 ∧ s.ends.length ≤ 999
def spOther (K : PySem.W.Frag) (c : Addr) : Sp := fun vs H Q E => ∃ v s pb ps pe w u qb qs qe, vs = [v, w] ∧ ScV K H s v pb ps pe ∧ ScV K H u w qb qs qe ∧ (s.signs = u.signs → Q .non H) ∧ (s.signs ≠ u.signs → E (.ref c) none H)
def spEither (K : PySem.W.Frag) (c c2 : Addr) : Sp := fun vs H Q E => ∃ v s pb ps pe w u qb qs qe, vs = [v, w] ∧ ScN K H s v pb ps pe ∧ ScN K H u w qb qs qe ∧ Lens3 s ∧ Lens3 u ∧ (s.signs ≠ u.signs → E (.ref c) none H) ∧ (s.signs = u.signs → 200 < s.rooms + u.rooms → E (.ref c2) none H) ∧
  (s.signs = u.signs → s.rooms + u.rooms ≤ 200 → ∀ v' H' pb' ps' pe', Same H H' → ScN K H' (eithS s u) v' pb' ps' pe' → Apart H pb' ps' pe' → Q v' H')
structure LensR (s : Scr) : Prop where
  lb : s.begins.length ≤ 999
  ls : s.steps.length ≤ 999
  le : s.ends.length ≤ 999
theorem ScN.mono {K : PySem.W.Frag} {H H' : Hp} {s : Scr} {v : V} {pb ps pe : Addr} (g : Same H H') : ScN K H s v pb ps pe → ScN K H' s v pb ps pe
  | ⟨a, xb, xs, xe, e, h1, h2, h3, h4, h5, h6, h7⟩ => ⟨a, xb, xs, xe, e, Same.seqT g h1, g _ _ h2, g _ _ h3, g _ _ h4, paired_mono (fun _ _ => MkV.mono (Same.grow g)) h5, paired_mono (fun _ _ => StV.mono (Same.grow g)) h6, paired_mono (fun _ _ => MkV.mono (Same.grow g)) h7⟩

def KyR (H : Hp) (k : List Key) (v : V) : Prop := ∃ b, v = .ref b ∧ H b = some (.tup (k.map kV))
theorem KyR.mono {H H' : Hp} {k : List Key} {v : V} (g : Same H H') : KyR H k v → KyR H' k v := fun ⟨b, e, h⟩ => ⟨b, e, g _ _ h⟩
theorem paired_keys {α β γ : Type} {F : α → γ → Prop} : ∀ {kvs : List (α × β)} {bs : List γ}, Paired (fun (kv : α × β) b => F kv.1 b) kvs bs → Paired F (kvs.map (·.1)) bs
  | _, _, .nil => .nil
  | _, _, .cons h t => .cons h (paired_keys t)
def spOnce (K : PySem.W.Frag) : Sp := fun vs H Q _ => ∃ p, vs = [.ref p] ∧ ((∃ ns : List Int, SqL K H p (ns.map V.int) ∧ ns.length ≤ 999 ∧ ∀ l H', Same H H' → H l = none → H' l = some (.lst ((onceM ns).map V.int)) → Q (.ref l) H') ∨
  ∃ (ys : List V) (ks : List (List Key)), SqL K H p ys ∧ Paired (KyR H) ks ys ∧ ks.length ≤ 999 ∧ ∀ l H' (bs : List Addr), Same H H' → H l = none → H' l = some (.lst (bs.map V.ref)) → Paired (fun k b => H' b = some (.tup (k.map kV))) (onceM ks) bs → Q (.ref l) H')
def kpM (n : Int) (M T : List Mk) : List Mk := M.flatMap fun m => (onceM (T.map (·.1))).map fun q => (m.1 * n + q, m.2)
abbrev Mv := Int × Str × Int
def mvOf (t : Stp) : Mv := (t.1, t.2.1, t.2.2.2)
def mvs (T : List Stp) : List Mv := onceM (T.map mvOf)
def onT (n : Int) (t : Stp) (u : Mv) : Stp := (t.1 * n + u.1, t.2.1, t.2.2.1, t.2.2.2 * n + u.2.2)
def kpT (n : Int) (S T : List Stp) : List Stp := S.flatMap fun t => ((mvs T).filter fun u => decide (u.2.1 = t.2.1)).map (onT n t)
def kpS (s u : Scr) : Scr := ⟨s.signs, s.rooms * u.rooms, kpM u.rooms s.begins u.begins, kpT u.rooms s.steps u.steps, kpM u.rooms s.ends u.ends⟩
structure Sm (s : Scr) : Prop where
  lb : s.begins.length ≤ 99
  ls : s.steps.length ≤ 99
  le : s.ends.length ≤ 99
def Nm (n : Int) : Prop := 0 ≤ n ∧ n ≤ 1000000
def MkL (K : PySem.W.Frag) (H : Hp) (p : Addr) (M : List Mk) : Prop := ∃ xs, SqL K H p xs ∧ Paired (MkV K H) M xs
def StL (K : PySem.W.Frag) (H : Hp) (p : Addr) (M : List Stp) : Prop := ∃ xs, SqL K H p xs ∧ Paired (StV K H) M xs
theorem MkL.mono {K : PySem.W.Frag} {H H' : Hp} {p : Addr} {M : List Mk} (g : Same H H') : MkL K H p M → MkL K H' p M := fun ⟨xs, h1, h2⟩ => ⟨xs, g.seq h1, paired_mono (fun _ _ => MkV.mono (Same.grow g)) h2⟩
theorem StL.mono {K : PySem.W.Frag} {H H' : Hp} {p : Addr} {M : List Stp} (g : Same H H') : StL K H p M → StL K H' p M := fun ⟨xs, h1, h2⟩ => ⟨xs, g.seq h1, paired_mono (fun _ _ => StV.mono (Same.grow g)) h2⟩
def MkW (K : PySem.W.Frag) (H : Hp) (p : Addr) (M : List Mk) : Prop := ∃ xs, H p = some (.lst xs) ∧ Paired (MkV K H) M xs
def StW (K : PySem.W.Frag) (H : Hp) (p : Addr) (M : List Stp) : Prop := ∃ xs, H p = some (.lst xs) ∧ Paired (StV K H) M xs
def spKeptM (K : PySem.W.Frag) : Sp := fun vs H Q _ => ∃ (p o : Addr) (n : Int) (M T : List Mk), vs = [.ref p, .ref o, .int n] ∧ MkL K H p M ∧ MkL K H o T ∧ M.length ≤ 99 ∧ T.length ≤ 99 ∧ Nm n ∧ ∀ l H', Same H H' → H l = none → MkW K H' l (kpM n M T) → Q (.ref l) H'
def PrV (K : PySem.W.Frag) (H : Hp) (u : Mv) (v : V) : Prop := ∃ b, v = .ref b ∧ SqT K H b [.int u.1, .int u.2.2]
theorem prv_gt (K : PySem.W.Frag) (H H' : Hp) (t : Mv) (v : V) (g : GT H H') (h : PrV K H t v) : PrV K H' t v := let ⟨b, e, h⟩ := h; ⟨b, e, g.seqT h⟩
def mvKey (u : Mv) : Key := Sum.inr u.2.1
def MovD (K : PySem.W.Frag) (H0 H : Hp) (ms : List Mv) (v : V) : Prop := ∃ d kvs, v = .ref d ∧ H d = some (.dK kvs) ∧ Bk (PrV K) mvKey H0 H d ms kvs
theorem MovD.mono {K : PySem.W.Frag} {H0 H H' : Hp} {ms : List Mv} {v : V} (g : Same H H') : MovD K H0 H ms v → MovD K H0 H' ms v := fun ⟨d, kvs, e, h, b⟩ => ⟨d, kvs, e, g _ _ h, b.mono (prv_gt K) g⟩
def spMoves (K : PySem.W.Frag) : Sp := fun vs H Q _ => ∃ (p : Addr) (T : List Stp), vs = [.ref p] ∧ StL K H p T ∧ T.length ≤ 99 ∧ ∀ v H', Same H H' → MovD K H H' (mvs T) v → Q v H'
def spKeptS (K : PySem.W.Frag) : Sp := fun vs H Q _ => ∃ (p o : Addr) (n : Int) (M T : List Stp), vs = [.ref p, .ref o, .int n] ∧ StL K H p M ∧ StL K H o T ∧ M.length ≤ 99 ∧ T.length ≤ 99 ∧ Nm n ∧ ∀ l H', Same H H' → H l = none → StW K H' l (kpT n M T) → Q (.ref l) H'
def spPairsN (K : PySem.W.Frag) (c : Addr) : Sp := fun vs H Q E => ∃ v s pb ps pe w u qb qs qe, vs = [v, w] ∧ ScV K H s v pb ps pe ∧ ScV K H u w qb qs qe ∧ Nm s.rooms ∧ (s.rooms * u.rooms ≤ 200 → Q .non H) ∧ (200 < s.rooms * u.rooms → E (.ref c) none H)
def spKept (K : PySem.W.Frag) (c c2 : Addr) : Sp := fun vs H Q E => ∃ v s pb ps pe w u qb qs qe, vs = [v, w] ∧ ScV K H s v pb ps pe ∧ ScV K H u w qb qs qe ∧ Sm s ∧ Sm u ∧ Nm s.rooms ∧ Nm u.rooms ∧ (s.signs ≠ u.signs → E (.ref c) none H) ∧ (s.signs = u.signs → 200 < s.rooms * u.rooms → E (.ref c2) none H) ∧
  (s.signs = u.signs → s.rooms * u.rooms ≤ 200 → ∀ v' H' pb' ps' pe', Same H H' → ScN K H' (kpS s u) v' pb' ps' pe' → Apart H pb' ps' pe' → Q v' H')
theorem kpM_len (n : Int) (T : List Mk) (h : T.length ≤ 99) : ∀ M : List Mk, (kpM n M T).length ≤ 99 * M.length
  | [] => Nat.zero_le _
  | m :: M => by
    have ih := kpM_len n T h M
    have h1 := once_len (T.map (·.1))
    unfold kpM at ih ⊢
    rw [List.flatMap_cons, List.length_append, List.length_map, List.length_cons]
    rw [List.length_map] at h1
    omega
theorem kpT_len (n : Int) (T : List Stp) (h : T.length ≤ 99) : ∀ M : List Stp, (kpT n M T).length ≤ 99 * M.length
  | [] => Nat.zero_le _
  | m :: M => by
    have ih := kpT_len n T h M
    have h1 := once_len (T.map mvOf)
    have h2 := List.length_filter_le (fun u : Mv => decide (u.2.1 = m.2.1)) (mvs T)
    unfold kpT at ih ⊢
    rw [List.flatMap_cons, List.length_append, List.length_map, List.length_cons]
    rw [List.length_map] at h1
    unfold mvs at h2 ih ⊢
    omega
theorem kpM_take {n : Int} {M T : List Mk} {i : Nat} {m : Mk} (h : M[i]? = some m) : kpM n (M.take (i + 1)) T = kpM n (M.take i) T ++ (onceM (T.map (·.1))).map fun q => (m.1 * n + q, m.2) := by
  unfold kpM
  rw [take_get h, List.flatMap_append, List.flatMap_singleton]
theorem kpT_take {n : Int} {M T : List Stp} {i : Nat} {t : Stp} (h : M[i]? = some t) : kpT n (M.take (i + 1)) T = kpT n (M.take i) T ++ ((mvs T).filter fun u => decide (u.2.1 = t.2.1)).map (onT n t) := by
  unfold kpT
  rw [take_get h, List.flatMap_append, List.flatMap_singleton]

def k3 (u : Mv) : List Key := [Sum.inl u.1, Sum.inr u.2.1, Sum.inl u.2.2]
theorem k3_inj (a b : Mv) (h : k3 a = k3 b) : a = b := by
  obtain ⟨a1, a2, a3⟩ := a
  obtain ⟨b1, b2, b3⟩ := b
  unfold k3 at h
  simp only [List.cons.injEq, Sum.inl.injEq, Sum.inr.injEq, and_true] at h
  obtain ⟨h1, h2, h3⟩ := h
  subst h1 h2 h3
  rfl
theorem once_map {α β : Type} [DecidableEq α] [DecidableEq β] {f : α → β} (inj : ∀ a b, f a = f b → a = b) (xs : List α) : onceM (xs.map f) = (onceM xs).map f := by
  have go : ∀ (xs acc : List α), (xs.map f).foldl addM (acc.map f) = (xs.foldl addM acc).map f := by
    intro xs
    induction xs with
    | nil => intro acc; rfl
    | cons x xs ih => intro acc; rw [List.map_cons, List.foldl_cons, List.foldl_cons, ← add_map inj, ih]
  exact go xs []

theorem MovD.get3 {K : PySem.W.Frag} {H0 H1 H : Hp} {ms : List Mv} {v : V} {g : Str} {l : Addr} (h : MovD K H0 H1 ms v) (s : Same H1 H) (hl : H l = some (.lst [])) :
    ∃ d o la ys, v = .ref d ∧ DGet H d (.str g) o ∧ o.getD (.ref l) = .ref la ∧ H la = some (.lst ys) ∧ Paired (PrV K H) (ms.filter (fun t => decide (t.2.1 = g))) ys ∧ (la = l ∨ ∃ u, H1 la = some u) := by
  obtain ⟨d, kvs, e, h1, b⟩ := h
  have hf : ms.filter (fun t => decide (mvKey t = Sum.inr g)) = ms.filter (fun t => decide (t.2.1 = g)) := by
    congr 1
    funext t
    exact decide_eq_decide.mpr ⟨fun z => by injection z, fun z => by unfold mvKey; rw [z]⟩
  have hg : DGet H d (.str g) (valV kvs (Sum.inr g)) := DGet.k (k := Sum.inr g) (s _ _ h1)
  cases ho : valV kvs (Sum.inr g) with
  | none => exact ⟨d, none, l, [], e, ho ▸ hg, rfl, hl, by rw [← hf, b.nokey _ ho]; exact .nil, .inl rfl⟩
  | some u =>
    obtain ⟨l1, ys, rfl, _, _, h4, h5, _⟩ := b.there _ _ ho
    exact ⟨d, _, l1, ys, e, ho ▸ hg, rfl, s _ _ h4, by rw [← hf]; exact paired_mono (fun _ _ => prv_gt K _ _ _ _ (GT.of s)) h5, .inr ⟨_, h4⟩⟩

def spAlone2 (K : PySem.W.Frag) (c1 c2 : Addr) : Sp := fun vs H Q _ => ∃ x c, vs = [.ref x] ∧ H x = some (Exc x c) ∧ (c1 = c ∨ c2 = c) ∧ ∀ H', Same H H' → Q (.bl true) H'
def bsO : List Bool := [false, false, false, true, false, false, false, false]
def bsT : List Bool := [false, false, false, false, true, false, false, false]
theorem wd_ab (j : Int) : Wd (Txt.slice "ab" none (some j)) := ⟨Nat.le_trans (Txt.slice_le _ _ _) (by decide +kernel), fun c hc => by
  rw [cl_slice] at hc
  exact (by decide +kernel : ∀ c ∈ cl ("ab" : Str), 97 ≤ c ∧ c ≤ 122) c (List.mem_of_mem_drop (List.mem_of_mem_take hc))⟩
theorem ab_len : ("ab" : Str).length = 2 := by decide +kernel
def spFew (K : PySem.W.Frag) : Sp := fun vs H Q _ => ∃ (a : Addr) (ns : List Int) (salt r : Int) (g : Str), vs = [.ref a, .int salt, .int r, .str g] ∧ SqL K H a (ns.map V.int) ∧ ns.length ≤ 63 ∧ 0 ≤ r ∧ r ≤ 1000 ∧ SgnOk g ∧ ∀ v H' s pb ps pe, Same H H' → ScV K H' s v pb ps pe → OkS false s 62 → s.rooms = r → s.signs = g → Q v H'
def spRooms (K : PySem.W.Frag) : Sp := fun vs H Q _ => ∃ n : Int, vs = [.int n] ∧ ∀ l H' (x y : Int), Same H H' → H' l = some (.lst [.int x, .int y]) → 0 ≤ x → x ≤ 200 → 0 ≤ y → y ≤ 201 → Q (.ref l) H'
def dueW (w : Int) (s u : Scr) : Str := if s.signs = u.signs then (if 200 < (if w = 0 then s.rooms + u.rooms else s.rooms * u.rooms) then "many" else "told") else "signs"
def spRefusal (K : PySem.W.Frag) : Sp := fun vs H Q _ => ∃ w v s pb ps pe v2 u qb qs qe, vs = [.int w, v, v2] ∧ ScN K H s v pb ps pe ∧ ScN K H u v2 qb qs qe ∧ Sm s ∧ Sm u ∧ Nm s.rooms ∧ Nm u.rooms ∧ ∀ H', Same H H' → Q (.str (dueW w s u)) H'
def pairOk (H : Hp) (v : V) : Prop := ∃ (b : Addr) (x y : Int), v = .ref b ∧ H b = some (.tup [.int x, .int y]) ∧ 0 ≤ x ∧ x ≤ 200 ∧ 0 ≤ y ∧ y ≤ 200

section
variable {X : Cx} {p1 p2 p3 p4 : Pos}
theorem th_pair {i j : Int} : PE X (.Tuple [.Constant (.int i) 0 p1, .Constant (.int j) 0 p2] 0 p3) (tTup (tCons (tC (V.int i)) (tCons (tC (V.int j)) tNil))) := pe_tup (pa_cons pe_int (pa_cons pe_int pa_nil))
theorem pa_pair {i j : Int} {es : List Expr} {t : TA} (h2 : PA X es t) : PA X (.Tuple [.Constant (.int i) 0 p1, .Constant (.int j) 0 p2] 0 p3 :: es) (tCons (tTup (tCons (tC (V.int i)) (tCons (tC (V.int j)) tNil))) t) := pa_cons th_pair h2 starT
theorem th_edges {a0 b0 c0 a1 b1 c1 a2 b2 c2 a3 b3 c3 a4 b4 c4 a5 b5 c5 a6 b6 c6 a7 b7 c7 p : Pos} : PE X (.List [.Tuple [.Constant (.int 10) 0 a0, .Constant (.int 20) 0 b0] 0 c0, .Tuple [.Constant (.int 67) 0 a1, .Constant (.int 3) 0 b1] 0 c1, .Tuple [.Constant (.int 200) 0 a2, .Constant (.int 1) 0 b2] 0 c2, .Tuple [.Constant (.int 101) 0 a3, .Constant (.int 2) 0 b3] 0 c3, .Tuple [.Constant (.int 14) 0 a4, .Constant (.int 14) 0 b4] 0 c4, .Tuple [.Constant (.int 1) 0 a5, .Constant (.int 200) 0 b5] 0 c5, .Tuple [.Constant (.int 8) 0 a6, .Constant (.int 25) 0 b6] 0 c6, .Tuple [.Constant (.int 29) 0 a7, .Constant (.int 7) 0 b7] 0 c7] p) (tLst (tCons (tTup (tCons (tC (V.int 10)) (tCons (tC (V.int 20)) tNil))) (tCons (tTup (tCons (tC (V.int 67)) (tCons (tC (V.int 3)) tNil))) (tCons (tTup (tCons (tC (V.int 200)) (tCons (tC (V.int 1)) tNil))) (tCons (tTup (tCons (tC (V.int 101)) (tCons (tC (V.int 2)) tNil))) (tCons (tTup (tCons (tC (V.int 14)) (tCons (tC (V.int 14)) tNil))) (tCons (tTup (tCons (tC (V.int 1)) (tCons (tC (V.int 200)) tNil))) (tCons (tTup (tCons (tC (V.int 8)) (tCons (tC (V.int 25)) tNil))) (tCons (tTup (tCons (tC (V.int 29)) (tCons (tC (V.int 7)) tNil))) (tNil)))))))))) := by
  refine pe_lst ?_
  refine pa_pair ?_
  refine pa_pair ?_
  refine pa_pair ?_
  refine pa_pair ?_
  refine pa_pair ?_
  refine pa_pair ?_
  refine pa_pair ?_
  refine pa_pair ?_
  exact pa_nil
theorem th_sg {l i : Expr} {q : Pos} {t : TE} (h : PE X (.Subscript l i q) t) : PE X (.List [.Constant (.str "ab") 0 p1, .Constant (.str "ab") 0 p2, .Constant (.str "ab") 0 p3, .Subscript l i q] p4) (tLst (tCons (tC (V.str "ab")) (tCons (tC (V.str "ab")) (tCons (tC (V.str "ab")) (tCons t tNil))))) :=
  pe_lst (pa_cons pe_str (pa_cons pe_str (pa_cons pe_str (pa_cons (hs := starS) h pa_nil))))
end
theorem Sm.lens {s : Scr} (h : Sm s) : Lens3 s := ⟨by have := h.lb; omega, by have := h.ls; omega, by have := h.le; omega⟩

theorem sg_few : ∀ v ∈ [V.str "ba", V.str "a", V.str "abc", V.str "b"], isSgn v := by
  intro v hv
  simp only [List.mem_cons, List.not_mem_nil, or_false] at hv
  rcases hv with rfl | rfl | rfl | rfl <;> exact ⟨_, rfl, by unfold SgnOk; decide +kernel⟩
theorem sg_ab : SgnOk "ab" := by unfold SgnOk; decide +kernel
def spLaw (K : PySem.W.Frag) : Sp := fun vs H Q _ => ∃ (a : Addr) (ns : List Int), vs = [.ref a] ∧ SqL K H a (ns.map V.int) ∧ ns.length ≤ 63 ∧ ∀ H', Q (.bl true) H'

section
seal L2.PE L2.PT L2.PW L2.PA L2.PS L2.PSs L2.PC L2.PG L2.PGs L2.PI L2.PO
variable {P : Program} {w : World} {K : PySem.W.Frag} {mg : Str → Option Value} {base : Heap}
theorem sc_refuse_other_signs : FnScope ["one", "other"] ["one", "other"] (defScope s_refuse_other_signs) := ⟨rfl, rfl, rfl, by decide +kernel, rfl, by decide +kernel, by decide +kernel⟩
theorem ok_refuse_other_signs (B : Bi mg) {c_ScribeError c_NoWay c_NoRoom c_NotPlain c_OtherSigns c_TooMany c_TwoWays c_NeverPlain c_NoText : Addr} (XB : Xb K mg c_ScribeError c_NoWay c_NoRoom c_NotPlain c_OtherSigns c_TooMany c_TwoWays c_NeverPlain c_NoText)  {f : Addr} {fd : FuncData} (F : Fun K "refuse_other_signs" "refuse_other_signs" s_refuse_other_signs f fd) : FnOk P w K mg base (CX1 P w) 1 f fd ["one", "other"] (spOther K c_OtherSigns) := by
  refine Fun.ok1 F sc_refuse_other_signs (fun vs H Q E h => ?_) (fun cdv A outer s H vs Q E hr h => ?_)
  · obtain ⟨v, s, pb, ps, pe, w, u, qb, qs, qe, rfl, _⟩ := h; rfl
  obtain ⟨v, s, pb, ps, pe, w, u, qb, qs, qe, rfl, hV, hU, q, hE⟩ := h
  refine ⟨_, (pss_one (ps_if (pt_cmpR op_ne (pe_ix (kIx (K := K) rIxT ix_tup) (pv 0) (pe_globI (by rfl) B.SIGNS) (by intro _ _; rfl)) (pe_ix (kIx (K := K) rIxT ix_tup) (pv 1) (pe_globI (by rfl) B.SIGNS) (by intro _ _; rfl)) (nomark _)) (pss_one (ps_raise XB.own_OtherSigns (by rfl) (by rfl) raise_on pe_str)) pss_nil)), ?_⟩
  obtain ⟨a, xb, xs, xe, rfl, h1, h2, h3, h4, h5, h6, h7⟩ := hV
  obtain ⟨b, yb, ys, ye, rfl, k1, k2, k3, k4, k5, k6, k7⟩ := hU
  refine ⟨_, rfl, _, _, _, _, rfl, rfl, h1, rfl, _, rfl, _, _, _, _, rfl, rfl, k1, rfl, rfl, _, rfl, iteNd (fun c => ?_) (fun c => ?_)⟩
  · exact ⟨rfl, hE (fun z => c (by rw [z]))⟩
  · exact q (by injection c)

theorem sc_refuse_many_pairs : FnScope ["one", "other"] ["one", "other"] (defScope s_refuse_many_pairs) := ⟨rfl, rfl, rfl, by decide +kernel, rfl, by decide +kernel, by decide +kernel⟩
theorem ok_refuse_many_pairs (B : Bi mg) {c_ScribeError c_NoWay c_NoRoom c_NotPlain c_OtherSigns c_TooMany c_TwoWays c_NeverPlain c_NoText : Addr} (XB : Xb K mg c_ScribeError c_NoWay c_NoRoom c_NotPlain c_OtherSigns c_TooMany c_TwoWays c_NeverPlain c_NoText)  {f : Addr} {fd : FuncData} (F : Fun K "refuse_many_pairs" "refuse_many_pairs" s_refuse_many_pairs f fd) : FnOk P w K mg base (CX1 P w) 1 f fd ["one", "other"] (spPairsN K c_TooMany) := by
  refine Fun.ok1 F sc_refuse_many_pairs (fun vs H Q E h => ?_) (fun cdv A outer s H vs Q E hr h => ?_)
  · obtain ⟨v, s, pb, ps, pe, w, u, qb, qs, qe, rfl, _⟩ := h; rfl
  obtain ⟨v, s, pb, ps, pe, w, u, qb, qs, qe, rfl, hV, hU, hn, q, hE⟩ := h
  refine ⟨_, (pss_one (ps_if (pt_cmpR op_gt (pe_op op_mul (pe_ix (kIx (K := K) rIxT ix_tup) (pv 0) (pe_globI (by rfl) B.ROOMS) (by intro _ _; rfl)) (pe_ix (kIx (K := K) rIxT ix_tup) (pv 1) (pe_globI (by rfl) B.ROOMS) (by intro _ _; rfl))) (pe_globI (by rfl) B.MOST_ROOMS) (nomark _)) (pss_one (ps_raise XB.own_TooMany (by rfl) (by rfl) raise_on pe_str)) pss_nil)), ?_⟩
  obtain ⟨a, xb, xs, xe, rfl, h1, h2, h3, h4, h5, h6, h7⟩ := hV
  obtain ⟨b, yb, ys, ye, rfl, k1, k2, k3, k4, k5, k6, k7⟩ := hU
  refine ⟨_, rfl, _, _, _, _, rfl, rfl, h1, rfl, _, rfl, _, _, _, _, rfl, rfl, k1, rfl, _, _, rfl, rfl, .inl ⟨by have := hn.1; omega, by have := hn.2; omega⟩, _, _, rfl, rfl, _, rfl, iteDd (fun c => ?_) (fun c => ?_)⟩
  · exact ⟨rfl, hE (by omega)⟩
  · exact q (by omega)

theorem sc_each_once : FnScope ["parts", "found", "part"] ["parts"] (defScope s_each_once) := ⟨rfl, rfl, rfl, by decide +kernel, rfl, by decide +kernel, by decide +kernel⟩
theorem ok_each_once (B : Bi mg) {c_ScribeError c_NoWay c_NoRoom c_NotPlain c_OtherSigns c_TooMany c_TwoWays c_NeverPlain c_NoText : Addr} (XB : Xb K mg c_ScribeError c_NoWay c_NoRoom c_NotPlain c_OtherSigns c_TooMany c_TwoWays c_NeverPlain c_NoText)  {f : Addr} {fd : FuncData} (F : Fun K "each_once" "each_once" s_each_once f fd) : FnOk P w K mg base CX0 1 f fd ["parts"] (spOnce K) := by
  refine F.ok sc_each_once (fun vs H Q E h => ?_) (fun cdv A outer s H vs Q E hr h => ?_)
  · obtain ⟨p, rfl, _⟩ := h; rfl
  obtain ⟨p, rfl, h⟩ := h
  refine ⟨_, (pss_cons (ps_set (i := 1) sc_each_once.nd rfl (Or.inl rfl) (pe_or pe_dnewK pe_dnewT))
      (pss_cons (ps_for PassesOwn.never (by rfl) (kPI (K := K) (fun k => iList k _) (pi_list (pv 0))) (pg_name (i := 2) sc_each_once.nd rfl (Or.inl rfl)) (pss_one (ps_dput (hu_of hr) (pv 1) (pv 2) pe_bl rfl)))
      (pss_one (ps_ret (pe_callTy (call_list_d (by rfl)) (by rfl) B.list bt_list (pa_cons (pv 1) pa_nil)))))), ?_⟩
  rcases h with ⟨ns, hS, hl, q⟩ | ⟨ys, ks, hS, hP, hl, q⟩
  · refine .inl fun d hd => ?_
    have g0 := same_new hd (.dK [])
    refine ⟨_, rfl, p, rfl, ⟨_, g0.seq hS⟩, ?_⟩
    refine for_list (xs := ns.map V.int) (fun i σ H' => Same H H' ∧ i ≤ ns.length ∧ (∃ x, σ = [some (.ref p), some (.ref d), x]) ∧ ∃ kvs : List (Key × V), H' d = some (.dK kvs) ∧ kvs.map (·.1) = (onceM (ns.take i)).map Sum.inl)
      ⟨g0, Nat.zero_le _, ⟨_, rfl⟩, [], upd_same, rfl⟩ (fun i σ H' _ z => z.1.seq hS) ?_ ?_
    · rintro i x σ H1 hx ⟨g1, hi, ⟨x2, rfl⟩, kvs, hkd, hkk⟩
      rw [List.getElem?_map] at hx
      obtain ⟨n, hn, rfl⟩ := Option.map_eq_some_iff.mp hx
      have hil : i < ns.length := (List.getElem?_eq_some_iff.mp hn).1
      have hkl : kvs.length ≤ 999 := by
        have e1 := congrArg List.length hkk
        rw [List.length_map, List.length_map] at e1
        have := once_len (ns.take i)
        rw [List.length_take] at this; omega
      refine ⟨_, rfl, _, rfl, d, _, rfl, DPut.k (k := Sum.inl n) (v := .bl true) hkd (szl' (by omega)), ?_⟩
      refine ⟨same_updN g1 hd, hil, ⟨_, rfl⟩, _, upd_same, ?_⟩
      rw [put_keys, hkk, take_get hn, once_snoc, add_map (fun a b z => by injection z)]
    rintro σ H1 ⟨g1, _, ⟨x2, rfl⟩, kvs, hkd, hkk⟩
    rw [List.length_map, List.take_length] at hkk
    refine ⟨_, rfl, d, rfl, .inl ⟨kvs, hkd, fun l hl => ?_⟩⟩
    refine q l _ (g1.trans (same_new hl _)) (g1.free hl) ?_
    rw [upd_same]
    have e : (kvs.map fun kv => kV kv.1) = (onceM ns).map V.int := by
      have e1 : (kvs.map fun kv => kV kv.1) = (kvs.map (·.1)).map kV := by rw [List.map_map]; rfl
      rw [e1, hkk, List.map_map]; rfl
    rw [e]
  · refine .inr fun d hd => ?_
    have g0 := same_new hd (.dT [])
    have hyl : ks.length = ys.length := hP.length
    refine ⟨_, rfl, p, rfl, ⟨_, g0.seq hS⟩, ?_⟩
    refine for_list (xs := ys) (fun i σ H' => Same H H' ∧ i ≤ ys.length ∧ (∃ x, σ = [some (.ref p), some (.ref d), x]) ∧ ∃ kvs : List (List Key × V), H' d = some (.dT kvs) ∧ kvs.map (·.1) = onceM (ks.take i))
      ⟨g0, Nat.zero_le _, ⟨_, rfl⟩, [], upd_same, rfl⟩ (fun i σ H' _ z => z.1.seq hS) ?_ ?_
    · rintro i x σ H1 hx ⟨g1, hi, ⟨x2, rfl⟩, kvs, hkd, hkk⟩
      obtain ⟨k, hk, b, rfl, hb⟩ := paired_get hP hx
      have hil : i < ys.length := (List.getElem?_eq_some_iff.mp hx).1
      have hkl : kvs.length ≤ 999 := by
        have e1 := congrArg List.length hkk
        rw [List.length_map] at e1
        have := once_len (ks.take i)
        rw [List.length_take] at this; omega
      refine ⟨_, rfl, _, rfl, d, _, rfl, DPut.t (v := .bl true) hkd (g1 _ _ hb) (szl' (by omega)), ?_⟩
      refine ⟨same_updN g1 hd, hil, ⟨_, rfl⟩, _, upd_same, ?_⟩
      rw [put_keys, hkk, take_get hk, once_snoc]
    rintro σ H1 ⟨g1, _, ⟨x2, rfl⟩, kvs, hkd, hkk⟩
    rw [← hyl, List.take_length] at hkk
    refine ⟨_, rfl, d, rfl, .inr ⟨kvs, hkd, fun bs l hb hl => ?_⟩⟩
    have gl := same_new hl (.lst (bs.map V.ref))
    have hb2 := paired_keys (F := fun (k : List Key) (b : Addr) => H1 b = some (.tup (k.map kV))) hb
    rw [hkk] at hb2
    exact q l _ bs (g1.trans gl) (g1.free hl) upd_same (paired_mono (fun _ _ z => gl _ _ z) hb2)

theorem sc_either_of : FnScope ["one", "other", "more", "begins", "steps", "ends"] ["one", "other"] (defScope s_either_of) := ⟨rfl, rfl, rfl, by decide +kernel, rfl, by decide +kernel, by decide +kernel⟩
theorem ok_either_of (B : Bi mg) {c_ScribeError c_NoWay c_NoRoom c_NotPlain c_OtherSigns c_TooMany c_TwoWays c_NeverPlain c_NoText : Addr} (XB : Xb K mg c_ScribeError c_NoWay c_NoRoom c_NotPlain c_OtherSigns c_TooMany c_TwoWays c_NeverPlain c_NoText) (C_refuse_other_signs : Cal1 P w K mg base "refuse_other_signs" ["one", "other"] 1 (spOther K c_OtherSigns)) {f : Addr} {fd : FuncData} (F : Fun K "either_of" "either_of" s_either_of f fd) : FnOk P w K mg base (CX1 P w) 2 f fd ["one", "other"] (spEither K c_OtherSigns c_TooMany) := by
  refine Fun.ok1 F sc_either_of (fun vs H Q E h => ?_) (fun cdv A outer s H vs Q E hr h => ?_)
  · obtain ⟨v, s, pb, ps, pe, w, u, qb, qs, qe, rfl, _⟩ := h; rfl
  obtain ⟨v, s, pb, ps, pe, w, u, qb, qs, qe, rfl, hV, hU, ls_, lu, qS, qT, q⟩ := h
  refine ⟨_, (pss_cons (ps_expr (pe_fn1 C_refuse_other_signs hr (by decide : 1 ≤ 1) (by rfl) pass_on (pa_cons (pv 0) (pa_cons (pv 1) pa_nil))))
      (pss_cons (ps_set (i := 2) sc_either_of.nd rfl (Or.inr rfl) (pe_ix (kIx (K := K) rIxT ix_tup) (pv 0) (pe_globI (by rfl) B.ROOMS) (by intro _ _; rfl)))
      (pss_cons (ps_if (pt_cmpR op_gt (pe_op op_add (pv 2) (pe_ix (kIx (K := K) rIxT ix_tup) (pv 1) (pe_globI (by rfl) B.ROOMS) (by intro _ _; rfl))) (pe_globI (by rfl) B.MOST_ROOMS) (nomark _)) (pss_one (ps_raise XB.own_TooMany (by rfl) (by rfl) raise_on pe_str)) pss_nil)
      (pss_cons (ps_set (i := 3) sc_either_of.nd rfl (Or.inl rfl) (pe_op op_cat (pe_ix (kIx (K := K) rIxT ix_tup) (pv 0) (pe_globI (by rfl) B.BEGINS) (by intro _ _; rfl)) (pe_comp rfl (blk_mk (N' := ["room", "word", "more"]) (js := [none, none, some 2]) rfl (by decide +kernel) rfl (by decide +kernel) rfl rfl) (kPI (K := K) (fun k => iList k _) (pi_list (pe_ix (kIx (K := K) rIxT ix_tup) (pv 1) (pe_globI (by rfl) B.BEGINS) (by intro _ _; rfl)))) (fun _ _ _ _ _ => (kPG (K := K) (fun k => gTup k 2 _) (pg_tup (n := 2) (by rfl) (pgs_cons (pg_name (i := 0) (show List.Nodup (["room", "word", "more"] : List Str) by decide +kernel) rfl (Or.inl rfl)) (pgs_cons (pg_name (i := 1) (show List.Nodup (["room", "word", "more"] : List Str) by decide +kernel) rfl (Or.inl rfl)) pgs_nil))))) (fun _ _ _ _ _ => pf_nil) (fun _ _ _ _ _ => (pe_tup (pa_cons (hs := starB) (pe_op op_add (pv 0) (pv 2)) (pa_cons (pv 1) pa_nil)))))))
      (pss_cons (ps_set (i := 4) sc_either_of.nd rfl (Or.inl rfl) (pe_op op_cat (pe_ix (kIx (K := K) rIxT ix_tup) (pv 0) (pe_globI (by rfl) B.STEPS) (by intro _ _; rfl)) (pe_comp rfl (blk_mk (N' := ["start", "sign", "word", "goal", "more"]) (js := [none, none, none, none, some 2]) rfl (by decide +kernel) rfl (by decide +kernel) rfl rfl) (kPI (K := K) (fun k => iList k _) (pi_list (pe_ix (kIx (K := K) rIxT ix_tup) (pv 1) (pe_globI (by rfl) B.STEPS) (by intro _ _; rfl)))) (fun _ _ _ _ _ => (kPG (K := K) (fun k => gTup k 4 _) (pg_tup (n := 4) (by rfl) (pgs_cons (pg_name (i := 0) (show List.Nodup (["start", "sign", "word", "goal", "more"] : List Str) by decide +kernel) rfl (Or.inl rfl)) (pgs_cons (pg_name (i := 1) (show List.Nodup (["start", "sign", "word", "goal", "more"] : List Str) by decide +kernel) rfl (Or.inl rfl)) (pgs_cons (pg_name (i := 2) (show List.Nodup (["start", "sign", "word", "goal", "more"] : List Str) by decide +kernel) rfl (Or.inl rfl)) (pgs_cons (pg_name (i := 3) (show List.Nodup (["start", "sign", "word", "goal", "more"] : List Str) by decide +kernel) rfl (Or.inl rfl)) pgs_nil))))))) (fun _ _ _ _ _ => pf_nil) (fun _ _ _ _ _ => (pe_tup (pa_cons (hs := starB) (pe_op op_add (pv 0) (pv 4)) (pa_cons (pv 1) (pa_cons (pv 2) (pa_cons (hs := starB) (pe_op op_add (pv 3) (pv 4)) pa_nil)))))))))
      (pss_cons (ps_set (i := 5) sc_either_of.nd rfl (Or.inl rfl) (pe_op op_cat (pe_ix (kIx (K := K) rIxT ix_tup) (pv 0) (pe_globI (by rfl) B.ENDS) (by intro _ _; rfl)) (pe_comp rfl (blk_mk (N' := ["room", "word", "more"]) (js := [none, none, some 2]) rfl (by decide +kernel) rfl (by decide +kernel) rfl rfl) (kPI (K := K) (fun k => iList k _) (pi_list (pe_ix (kIx (K := K) rIxT ix_tup) (pv 1) (pe_globI (by rfl) B.ENDS) (by intro _ _; rfl)))) (fun _ _ _ _ _ => (kPG (K := K) (fun k => gTup k 2 _) (pg_tup (n := 2) (by rfl) (pgs_cons (pg_name (i := 0) (show List.Nodup (["room", "word", "more"] : List Str) by decide +kernel) rfl (Or.inl rfl)) (pgs_cons (pg_name (i := 1) (show List.Nodup (["room", "word", "more"] : List Str) by decide +kernel) rfl (Or.inl rfl)) pgs_nil))))) (fun _ _ _ _ _ => pf_nil) (fun _ _ _ _ _ => (pe_tup (pa_cons (hs := starB) (pe_op op_add (pv 0) (pv 2)) (pa_cons (pv 1) pa_nil)))))))
      (pss_one (ps_ret (pe_tup (pa_cons (hs := starS) (pe_ix (kIx (K := K) rIxT ix_tup) (pv 0) (pe_globI (by rfl) B.SIGNS) (by intro _ _; rfl)) (pa_cons (hs := starB) (pe_op op_add (pv 2) (pe_ix (kIx (K := K) rIxT ix_tup) (pv 1) (pe_globI (by rfl) B.ROOMS) (by intro _ _; rfl))) (pa_cons (pv 3) (pa_cons (pv 4) (pa_cons (pv 5) pa_nil)))))))))))))), ?_⟩
  replace ls_ : LensR s := ⟨ls_.1, ls_.2.1, ls_.2.2⟩
  replace lu : LensR u := ⟨lu.1, lu.2.1, lu.2.2⟩
  refine ⟨_, rfl, _, rfl, v, s, pb, ps, pe, w, u, qb, qs, qe, rfl, hV.v, hU.v, fun hs => ?_, fun hs => qS hs⟩
  replace q := q hs
  replace qT := qT hs
  obtain ⟨a, xb, xs, xe, rfl, h1, h2, h3, h4, h5, h6, h7⟩ := hV
  obtain ⟨b, yb, ys, ye, rfl, k1, k2, k3, k4, k5, k6, k7⟩ := hU
  refine ⟨_, rfl, _, _, _, _, rfl, rfl, h1, rfl, ?_⟩
  refine ⟨_, rfl, _, rfl, _, _, _, _, rfl, rfl, k1, rfl, _, _, rfl, rfl, _, _, rfl, rfl, _, rfl, iteDd (fun c => ?_) (fun c => ?_)⟩
  · exact ⟨rfl, qT (by omega)⟩
  replace q := q (by omega)
  refine ⟨_, rfl, _, _, _, _, rfl, rfl, h1, rfl, _, rfl, _, _, _, _, rfl, rfl, k1, rfl, qb, rfl, ⟨yb, SqL.of k2⟩, ?_⟩
  
  refine comp_list (xs := yb) (fun i rs τ H' => Same H H' ∧ (∃ x y, τ = [x, y, some (.int s.rooms)]) ∧ i ≤ yb.length ∧ Paired (MkV K H') ((u.begins.take i).map (shM s.rooms)) rs) ⟨Same.refl _, ⟨_, _, rfl⟩, Nat.zero_le _, .nil⟩ (fun i rs τ H' z => z.1.seq (SqL.of k2)) ?_ ?_
  · rintro i x rs τ H' hx ⟨g', ⟨x0, y0, rfl⟩, hi, hP⟩
    obtain ⟨m, hm, b, rfl, hb⟩ := paired_get k5 hx
    have hil : i < yb.length := (List.getElem?_eq_some_iff.mp hx).1
    have hll : yb.length ≤ 999 := by rw [← k5.length]; exact lu.lb
    have hb1 := (Same.grow g').seqT hb
    have hyl : rs.length ≤ 999 := by rw [← hP.length, List.length_map, List.length_take]; omega
    refine ⟨b, _, rfl, hb1, rfl, _, _, rfl, _, _, rfl, rfl, ?_⟩
    refine ⟨_, rfl, _, rfl, _, _, rfl, rfl, _, rfl, (by show 2 ≤ sizeLine; decide), fun p hp => ⟨szl' (by omega), g'.trans (same_new hp _), ⟨_, _, rfl⟩, hil, ?_⟩⟩
    rw [take_get hm, List.map_append]
    exact paired_append (paired_mono (fun _ _ => MkV.mono (grow_new hp _)) hP) (.cons ⟨p, rfl, SqT.of upd_same⟩ .nil)
  rintro fay τ faH ⟨gfa, _, _, hPfa⟩ fal hfal
  rw [← k5.length, List.take_length] at hPfa
  have kfa := same_new hfal (.lst fay)
  have efal := upd_same (H := faH) (a := fal) (o := .lst fay)
  have gfa := gfa.trans kfa
  have hPfa := paired_mono (fun _ _ => MkV.mono (Same.grow kfa)) hPfa
  generalize upd faH fal (.lst fay) = faJ at efal gfa hPfa ⊢
  have zfa : xb.length + fay.length ≤ 2000 := by rw [← hPfa.length, ← h5.length, List.length_map]; have := ls_.lb; have := lu.lb; omega
  refine ⟨_, fal, _, _, rfl, rfl,  gfa _ _ h2, efal, szl (by omega), fun fa hfa => ?_⟩
  have hfa0 := gfa.free hfa
  have kfa := same_new hfa (.lst (xb ++ fay))
  have efa := upd_same (H := faJ) (a := fa) (o := .lst (xb ++ fay))
  have hPfa := paired_append (paired_mono (fun _ _ => MkV.mono (Same.grow gfa)) h5) hPfa
  have hPfa := paired_mono (fun _ _ => MkV.mono (Same.grow kfa)) hPfa
  have gfa := gfa.trans kfa
  generalize upd faJ fa (.lst (xb ++ fay)) = faK at efa gfa hPfa ⊢
  
  have h6a := paired_mono (fun _ _ => StV.mono (Same.grow gfa)) h6
  have k6a := paired_mono (fun _ _ => StV.mono (Same.grow gfa)) k6
  have h3a := gfa _ _ h3
  refine ⟨_, rfl, _, _, _, _, rfl, rfl, Same.seqT gfa h1, rfl, _, rfl, _, _, _, _, rfl, rfl, Same.seqT gfa k1, rfl, qs, rfl, ⟨ys, SqL.of (gfa _ _ k3)⟩, ?_⟩
  
  refine comp_list (xs := ys) (fun i rs τ H' => Same faK H' ∧ (∃ x y x2 y2, τ = [x, y, x2, y2, some (.int s.rooms)]) ∧ i ≤ ys.length ∧ Paired (StV K H') ((u.steps.take i).map (shT s.rooms)) rs) ⟨Same.refl _, ⟨_, _, _, _, rfl⟩, Nat.zero_le _, .nil⟩ (fun i rs τ H' z => z.1.seq (SqL.of (gfa _ _ k3))) ?_ ?_
  · rintro i x rs τ H' hx ⟨g', ⟨x0, y0, x2, y2, rfl⟩, hi, hP⟩
    obtain ⟨m, hm, b, rfl, hb⟩ := paired_get k6a hx
    have hil : i < ys.length := (List.getElem?_eq_some_iff.mp hx).1
    have hll : ys.length ≤ 999 := by rw [← k6a.length]; exact lu.ls
    have hb1 := (Same.grow g').seqT hb
    have hyl : rs.length ≤ 999 := by rw [← hP.length, List.length_map, List.length_take]; omega
    refine ⟨b, _, rfl, hb1, rfl, _, _, rfl, _, _, rfl, _, _, rfl, _, _, rfl, rfl, ?_⟩
    refine ⟨_, rfl, _, rfl, _, _, rfl, rfl, _, rfl, _, rfl, _, rfl, _, rfl, _, _, rfl, rfl, (by show 4 ≤ sizeLine; decide), fun p hp => ⟨szl' (by omega), g'.trans (same_new hp _), ⟨_, _, _, _, rfl⟩, hil, ?_⟩⟩
    rw [take_get hm, List.map_append]
    exact paired_append (paired_mono (fun _ _ => StV.mono (grow_new hp _)) hP) (.cons ⟨p, rfl, SqT.of upd_same⟩ .nil)
  rintro fby τ fbH ⟨gfb, _, _, hPfb⟩ fbl hfbl
  rw [← k6a.length, List.take_length] at hPfb
  have kfb := same_new hfbl (.lst fby)
  have efbl := upd_same (H := fbH) (a := fbl) (o := .lst fby)
  have gfb := gfb.trans kfb
  have hPfb := paired_mono (fun _ _ => StV.mono (Same.grow kfb)) hPfb
  generalize upd fbH fbl (.lst fby) = fbJ at efbl gfb hPfb ⊢
  have zfb : xs.length + fby.length ≤ 2000 := by rw [← hPfb.length, ← h6a.length, List.length_map]; have := ls_.ls; have := lu.ls; omega
  refine ⟨_, fbl, _, _, rfl, rfl,  gfb _ _ h3a, efbl, szl (by omega), fun fb hfb => ?_⟩
  have hfb0 := gfb.free hfb
  have kfb := same_new hfb (.lst (xs ++ fby))
  have efb := upd_same (H := fbJ) (a := fb) (o := .lst (xs ++ fby))
  have hPfb := paired_append (paired_mono (fun _ _ => StV.mono (Same.grow gfb)) h6a) hPfb
  have hPfb := paired_mono (fun _ _ => StV.mono (Same.grow kfb)) hPfb
  have gfb := gfb.trans kfb
  generalize upd fbJ fb (.lst (xs ++ fby)) = fbK at efb gfb hPfb ⊢
  
  have g2 := gfa.trans gfb
  have h7b := paired_mono (fun _ _ => MkV.mono (Same.grow g2)) h7
  have k7b := paired_mono (fun _ _ => MkV.mono (Same.grow g2)) k7
  have h4b := g2 _ _ h4
  refine ⟨_, rfl, _, _, _, _, rfl, rfl, Same.seqT g2 h1, rfl, _, rfl, _, _, _, _, rfl, rfl, Same.seqT g2 k1, rfl, qe, rfl, ⟨ye, SqL.of (g2 _ _ k4)⟩, ?_⟩
  
  refine comp_list (xs := ye) (fun i rs τ H' => Same fbK H' ∧ (∃ x y, τ = [x, y, some (.int s.rooms)]) ∧ i ≤ ye.length ∧ Paired (MkV K H') ((u.ends.take i).map (shM s.rooms)) rs) ⟨Same.refl _, ⟨_, _, rfl⟩, Nat.zero_le _, .nil⟩ (fun i rs τ H' z => z.1.seq (SqL.of (g2 _ _ k4))) ?_ ?_
  · rintro i x rs τ H' hx ⟨g', ⟨x0, y0, rfl⟩, hi, hP⟩
    obtain ⟨m, hm, b, rfl, hb⟩ := paired_get k7b hx
    have hil : i < ye.length := (List.getElem?_eq_some_iff.mp hx).1
    have hll : ye.length ≤ 999 := by rw [← k7b.length]; exact lu.le
    have hb1 := (Same.grow g').seqT hb
    have hyl : rs.length ≤ 999 := by rw [← hP.length, List.length_map, List.length_take]; omega
    refine ⟨b, _, rfl, hb1, rfl, _, _, rfl, _, _, rfl, rfl, ?_⟩
    refine ⟨_, rfl, _, rfl, _, _, rfl, rfl, _, rfl, (by show 2 ≤ sizeLine; decide), fun p hp => ⟨szl' (by omega), g'.trans (same_new hp _), ⟨_, _, rfl⟩, hil, ?_⟩⟩
    rw [take_get hm, List.map_append]
    exact paired_append (paired_mono (fun _ _ => MkV.mono (grow_new hp _)) hP) (.cons ⟨p, rfl, SqT.of upd_same⟩ .nil)
  rintro fcy τ fcH ⟨gfc, _, _, hPfc⟩ fcl hfcl
  rw [← k7b.length, List.take_length] at hPfc
  have kfc := same_new hfcl (.lst fcy)
  have efcl := upd_same (H := fcH) (a := fcl) (o := .lst fcy)
  have gfc := gfc.trans kfc
  have hPfc := paired_mono (fun _ _ => MkV.mono (Same.grow kfc)) hPfc
  generalize upd fcH fcl (.lst fcy) = fcJ at efcl gfc hPfc ⊢
  have zfc : xe.length + fcy.length ≤ 2000 := by rw [← hPfc.length, ← h7b.length, List.length_map]; have := ls_.le; have := lu.le; omega
  refine ⟨_, fcl, _, _, rfl, rfl,  gfc _ _ h4b, efcl, szl (by omega), fun fc hfc => ?_⟩
  have hfc0 := gfc.free hfc
  have kfc := same_new hfc (.lst (xe ++ fcy))
  have efc := upd_same (H := fcJ) (a := fc) (o := .lst (xe ++ fcy))
  have hPfc := paired_append (paired_mono (fun _ _ => MkV.mono (Same.grow gfc)) h7b) hPfc
  have hPfc := paired_mono (fun _ _ => MkV.mono (Same.grow kfc)) hPfc
  have gfc := gfc.trans kfc
  generalize upd fcJ fc (.lst (xe ++ fcy)) = fcK at efc gfc hPfc ⊢
  
  have g3 := g2.trans gfc
  have t1 := Same.seqT g3 h1
  have t2 := Same.seqT g3 k1
  refine ⟨_, rfl, _, _, _, _, rfl, rfl, t1, rfl, _, rfl, _, rfl, _, _, _, _, rfl, rfl, t2, rfl, _, _, rfl, rfl, _, rfl, _, rfl, _, rfl, (by show 5 ≤ sizeLine; decide), fun v hv => ?_⟩
  have gv := same_new hv (.tup [V.str s.signs, V.int (s.rooms + u.rooms), V.ref fa, V.ref fb, V.ref fc])
  have ev := upd_same (H := fcK) (a := v) (o := .tup [V.str s.signs, V.int (s.rooms + u.rooms), V.ref fa, V.ref fb, V.ref fc])
  dsimp only at hv ⊢
  generalize upd fcK v (.tup [V.str s.signs, V.int (s.rooms + u.rooms), V.ref fa, V.ref fb, V.ref fc]) = H4 at gv ev ⊢
  have ga := (gfb.trans gfc).trans gv
  have gb := gfc.trans gv
  exact q _ _ fa fb fc (g3.trans gv) ⟨v, _, _, _, rfl, SqT.of ev, ga _ _ efa, gb _ _ efb, gv _ _ efc, paired_mono (fun _ _ => MkV.mono (Same.grow ga)) hPfa, paired_mono (fun _ _ => StV.mono (Same.grow gb)) hPfb, paired_mono (fun _ _ => MkV.mono (Same.grow gv)) hPfc⟩
    ⟨hfa0, gfa.free hfb0, g2.free hfc0, ne_of_none efa hfb0, ne_of_none (gfb _ _ efa) hfc0, ne_of_none efb hfc0⟩

theorem sc_kept_marks : FnScope ["marks", "others", "count", "rooms", "kept", "room", "word"] ["marks", "others", "count"] (defScope s_kept_marks) := ⟨rfl, rfl, rfl, by decide +kernel, rfl, by decide +kernel, by decide +kernel⟩
theorem ok_kept_marks (B : Bi mg) {c_ScribeError c_NoWay c_NoRoom c_NotPlain c_OtherSigns c_TooMany c_TwoWays c_NeverPlain c_NoText : Addr} (XB : Xb K mg c_ScribeError c_NoWay c_NoRoom c_NotPlain c_OtherSigns c_TooMany c_TwoWays c_NeverPlain c_NoText) (C_each_once : Cal P w K mg base "each_once" ["parts"] 1 (spOnce K)) {f : Addr} {fd : FuncData} (F : Fun K "kept_marks" "kept_marks" s_kept_marks f fd) : FnOk P w K mg base CX0 2 f fd ["marks", "others", "count"] (spKeptM K) := by
  refine F.ok sc_kept_marks (fun vs H Q E h => ?_) (fun cdv A outer s H vs Q E hr h => ?_)
  · obtain ⟨p, o, n, M, T, rfl, _⟩ := h; rfl
  obtain ⟨p, o, n, M, T, rfl, hM, hT, lM, lT, hn, q⟩ := h
  refine ⟨_, (pss_cons (ps_set (i := 3) sc_kept_marks.nd rfl (Or.inl rfl) (pe_fn C_each_once hr (by decide : 1 ≤ 1) (by rfl) (pa_cons (pe_comp rfl (blk_mk (N' := ["room", "word"]) (js := [none, none]) rfl (by decide +kernel) rfl (by decide +kernel) rfl rfl) (kPI (K := K) (fun k => iList k _) (pi_list (pv 1))) (fun _ _ _ _ _ => (kPG (K := K) (fun k => gTup k 2 _) (pg_tup (n := 2) (by rfl) (pgs_cons (pg_name (i := 0) (show List.Nodup (["room", "word"] : List Str) by decide +kernel) rfl (Or.inl rfl)) (pgs_cons (pg_name (i := 1) (show List.Nodup (["room", "word"] : List Str) by decide +kernel) rfl (Or.inl rfl)) pgs_nil))))) (fun _ _ _ _ _ => pf_nil) (fun _ _ _ _ _ => (pv 0))) pa_nil)))
      (pss_cons (ps_set (i := 4) sc_kept_marks.nd rfl (Or.inl rfl) (pe_lst pa_nil))
      (pss_cons (ps_for PassesOwn.never (by rfl) (kPI (K := K) (fun k => iList k _) (pi_list (pv 0))) (kPG (K := K) (fun k => gTup k 2 _) (pg_tup (n := 2) (by rfl) (pgs_cons (pg_name (i := 5) sc_kept_marks.nd rfl (Or.inr rfl)) (pgs_cons (pg_name (i := 6) sc_kept_marks.nd rfl (Or.inr rfl)) pgs_nil)))) (pss_one (ps_expr (kPE (K := K) (fun k => tBM k _ _ _ _) (pe_bm PySem.F.plainAttrs_list PySem.F.slot_list_extend PySem.F.type_list_extend mt_extend (pv 4) (pa_cons (pe_comp rfl (blk_mk (N' := ["other", "word", "room", "count"]) (js := [none, some 6, some 5, some 2]) rfl (by decide +kernel) rfl (by decide +kernel) rfl rfl) (kPI (K := K) (fun k => iList k _) (pi_list (pv 3))) (fun _ _ _ _ _ => (pg_name (i := 0) (show List.Nodup (["other", "word", "room", "count"] : List Str) by decide +kernel) rfl (Or.inl rfl))) (fun _ _ _ _ _ => pf_nil) (fun _ _ _ _ _ => (pe_tup (pa_cons (hs := starB) (pe_op op_add (pe_op op_mul (pv 2) (pv 3)) (pv 0)) (pa_cons (pv 1) pa_nil))))) pa_nil))))))
      (pss_one (ps_ret (pv 4)))))), ?_⟩
  obtain ⟨xm, m1, m2⟩ := hM
  obtain ⟨xo, o1, o2⟩ := hT
  have lxo : T.length = xo.length := o2.length
  have lxm : M.length = xm.length := m2.length
  refine ⟨_, rfl, o, rfl, ⟨xo, o1⟩, ?_⟩
  refine comp_list (xs := xo) (fun i ys τ H' => H = H' ∧ (∃ x y, τ = [x, y]) ∧ i ≤ xo.length ∧ ys = ((T.take i).map (·.1)).map V.int) ⟨rfl, ⟨_, _, rfl⟩, Nat.zero_le _, rfl⟩ (fun i ys τ H' z => z.1 ▸ o1) ?_ ?_
  · rintro i x ys τ _ hx ⟨rfl, ⟨x0, y0, rfl⟩, hi, rfl⟩
    obtain ⟨m, hm, b, rfl, hb⟩ := paired_get o2 hx
    have hil : i < xo.length := (List.getElem?_eq_some_iff.mp hx).1
    refine ⟨b, _, rfl, hb, rfl, _, _, rfl, _, _, rfl, rfl, ?_⟩
    refine ⟨_, rfl, szl' (by rw [List.length_map, List.length_map, List.length_take]; omega), rfl, ⟨_, _, rfl⟩, hil, ?_⟩
    rw [take_get hm, List.map_append, List.map_append]; rfl
  rintro ys τ _ ⟨rfl, _, _, rfl⟩ pl hpl
  rw [← lxo, List.take_length]
  have gl := same_new hpl (.lst ((T.map (·.1)).map V.int))
  have el := upd_same (H := H) (a := pl) (o := .lst ((T.map (·.1)).map V.int))
  generalize upd H pl (.lst ((T.map (·.1)).map V.int)) = H1 at gl el ⊢
  refine ⟨pl, rfl, .inl ⟨T.map (·.1), SqL.of el, by rw [List.length_map]; omega, fun lr H2 g2 hlr elr => ?_⟩⟩
  have hol := once_len (T.map (·.1))
  rw [List.length_map] at hol
  have g02 := gl.trans g2
  have hRR : kpM n M T = M.flatMap fun m => (onceM (T.map (·.1))).map fun q => (m.1 * n + q, m.2) := rfl
  refine ⟨szl (by simp), fun pk hpk => ?_⟩
  have gk := same_new hpk (.lst [])
  have ek := upd_same (H := H2) (a := pk) (o := .lst [])
  generalize upd H2 pk (.lst []) = H3 at gk ek ⊢
  have m2' := paired_mono (fun _ _ => MkV.mono (Same.grow g02)) m2
  refine ⟨_, rfl, p, rfl, ⟨xm, (g02.trans gk).seq m1⟩, ?_⟩
  refine for_list (xs := xm) (fun i σ H' => Same H2 H' ∧ i ≤ xm.length ∧ (∃ x5 x6, σ = [some (.ref p), some (.ref o), some (.int n), some (.ref lr), some (.ref pk), x5, x6]) ∧ ∃ zs, H' pk = some (.lst zs) ∧ Paired (MkV K H') (kpM n (M.take i) T) zs)
    ⟨gk, Nat.zero_le _, ⟨_, _, rfl⟩, [], ek, .nil⟩ (fun i σ H' _ z => (g02.trans z.1).seq m1) ?_ ?_
  · rintro i x σ H5 hx ⟨g5, hi, ⟨x5, x6, rfl⟩, zs, ez, hP⟩
    obtain ⟨m, hm, b, rfl, hb⟩ := paired_get m2' hx
    have hil : i < xm.length := (List.getElem?_eq_some_iff.mp hx).1
    have hb1 := (Same.grow g5).seqT hb
    have elr5 := g5 _ _ elr
    have hzl : zs.length ≤ 9801 := by rw [← hP.length]; have := kpM_len n T lT (M.take i); rw [List.length_take] at this; omega
    refine ⟨b, _, rfl, hb1, rfl, _, _, rfl, _, _, rfl, rfl, ?_⟩
    refine ⟨_, rfl, .inl ⟨rfl, _, SqL.of ez⟩, ?_⟩
    refine ⟨_, rfl, lr, rfl, ⟨_, SqL.of elr5⟩, ?_⟩
    refine comp_list (xs := (onceM (T.map (·.1))).map V.int) (fun j ys τ H' => Same H5 H' ∧ (∃ x, τ = [x, some (.str m.2), some (.int m.1), some (.int n)]) ∧ j ≤ (onceM (T.map (·.1))).length ∧ Paired (MkV K H') (((onceM (T.map (·.1))).take j).map fun q => (m.1 * n + q, m.2)) ys) ⟨Same.refl _, ⟨_, rfl⟩, Nat.zero_le _, .nil⟩ (fun j ys τ H' z => z.1.seq (SqL.of elr5)) ?_ ?_
    · rintro j y ys τ H6 hy ⟨g6, ⟨x0, rfl⟩, hj, hPy⟩
      rw [List.getElem?_map] at hy
      obtain ⟨r, hr, rfl⟩ := Option.map_eq_some_iff.mp hy
      have hjl : j < (onceM (T.map (·.1))).length := (List.getElem?_eq_some_iff.mp hr).1
      have hyl : ys.length ≤ 99 := by rw [← hPy.length, List.length_map, List.length_take]; omega
      refine ⟨_, rfl, _, rfl, _, _, rfl, rfl, .inr ⟨by have := hn.1; have := hn.2; omega, by have := hn.1; have := hn.2; omega⟩, _, rfl, _, _, rfl, rfl, _, rfl, (by show 2 ≤ sizeLine; decide), fun p hp => ⟨szl' (by omega), g6.trans (same_new hp _), ⟨_, rfl⟩, hjl, ?_⟩⟩
      rw [take_get hr, List.map_append]
      exact paired_append (paired_mono (fun _ _ => MkV.mono (grow_new hp _)) hPy) (.cons ⟨p, rfl, SqT.of upd_same⟩ .nil)
    rintro ys τ H6 ⟨g6, _, _, hPy⟩ py hpy
    rw [List.length_map, List.take_length] at hPy
    have hyl : ys.length ≤ 99 := by rw [← hPy.length, List.length_map]; omega
    have gy := same_new hpy (.lst ys)
    have ey := upd_same (H := H6) (a := py) (o := .lst ys)
    have g56 := g6.trans gy
    have ez := g56 _ _ ez
    have hP := paired_mono (fun _ _ => MkV.mono (Same.grow g56)) hP
    have hPy := paired_mono (fun _ _ => MkV.mono (Same.grow gy)) hPy
    have g6 := g5.trans g56
    generalize upd H6 py (.lst ys) = H7 at ey ez hP hPy g6 ⊢
    refine ⟨pk, py, zs, ys, rfl, rfl, ez, ey, szl (by omega), same_updN g6 hpk, hil, ⟨_, _, rfl⟩, zs ++ ys, upd_same, ?_⟩
    have gt : GT H7 (upd H7 pk (.lst (zs ++ ys))) := gt_upd ez (fun _ z => nomatch z) (fun _ _ z => nomatch z) _
    rw [kpM_take hm]
    exact paired_append (paired_mono (fun _ _ => MkV.gt gt) hP) (paired_mono (fun _ _ => MkV.gt gt) hPy)
  rintro σ H5 ⟨g5, _, ⟨x5, x6, rfl⟩, zs, ez, hP⟩
  rw [← lxm, List.take_length] at hP
  exact ⟨_, rfl, q pk _ (g02.trans g5) (g02.free hpk) ⟨zs, ez, hP⟩⟩

theorem sc_moves_by_sign : FnScope ["steps", "moves", "start", "sign", "goal"] ["steps"] (defScope s_moves_by_sign) := ⟨rfl, rfl, rfl, by decide +kernel, rfl, by decide +kernel, by decide +kernel⟩
theorem ok_moves_by_sign (B : Bi mg) {c_ScribeError c_NoWay c_NoRoom c_NotPlain c_OtherSigns c_TooMany c_TwoWays c_NeverPlain c_NoText : Addr} (XB : Xb K mg c_ScribeError c_NoWay c_NoRoom c_NotPlain c_OtherSigns c_TooMany c_TwoWays c_NeverPlain c_NoText) (C_each_once : Cal P w K mg base "each_once" ["parts"] 1 (spOnce K)) {f : Addr} {fd : FuncData} (F : Fun K "moves_by_sign" "moves_by_sign" s_moves_by_sign f fd) : FnOk P w K mg base CX0 2 f fd ["steps"] (spMoves K) := by
  refine F.ok sc_moves_by_sign (fun vs H Q E h => ?_) (fun cdv A outer s H vs Q E hr h => ?_)
  · obtain ⟨p, T, rfl, _⟩ := h; rfl
  obtain ⟨p, T, rfl, hT, lT, q⟩ := h
  refine ⟨_, (pss_cons (ps_set (i := 1) sc_moves_by_sign.nd rfl (Or.inl rfl) pe_dnewK)
      (pss_cons (ps_for PassesOwn.never (by rfl) (kPI (K := K) (fun k => iList k _) (pi_list (pe_fn C_each_once hr (by decide : 1 ≤ 1) (by rfl) (pa_cons (pe_comp rfl (blk_mk (N' := ["step"]) (js := [none]) rfl (by decide +kernel) rfl (by decide +kernel) rfl rfl) (kPI (K := K) (fun k => iList k _) (pi_list (pv 0))) (fun _ _ _ _ _ => (pg_name (i := 0) (show List.Nodup (["step"] : List Str) by decide +kernel) rfl (Or.inl rfl))) (fun _ _ _ _ _ => pf_nil) (fun _ _ _ _ _ => (pe_tup (pa_cons (hs := starS) (pe_ix (kIx (K := K) rIxT ix_tup) (pv 0) pe_int (by intro _ _; rfl)) (pa_cons (hs := starS) (pe_ix (kIx (K := K) rIxT ix_tup) (pv 0) pe_int (by intro _ _; rfl)) (pa_cons (hs := starS) (pe_ix (kIx (K := K) rIxT ix_tup) (pv 0) pe_int (by intro _ _; rfl)) pa_nil)))))) pa_nil)))) (kPG (K := K) (fun k => gTup k 3 _) (pg_tup (n := 3) (by rfl) (pgs_cons (pg_name (i := 2) sc_moves_by_sign.nd rfl (Or.inl rfl)) (pgs_cons (pg_name (i := 3) sc_moves_by_sign.nd rfl (Or.inl rfl)) (pgs_cons (pg_name (i := 4) sc_moves_by_sign.nd rfl (Or.inl rfl)) pgs_nil))))) (pss_one (ps_expr (kPE (K := K) (fun k => tBM k _ _ _ _) (pe_bm PySem.F.plainAttrs_list PySem.F.slot_list_append PySem.F.type_list_append mt_append (kPE (K := K) (fun k => tBM k _ _ _ _) (pe_bm PySem.F.plainAttrs_dict PySem.F.slot_dict_setdefault PySem.F.type_dict_setdefault (mt_setdefault hr) (pv 1) (pa_cons (pv 3) (pa_cons (hs := starL) (pe_lst pa_nil) pa_nil)))) (pa_cons (hs := starT) (pe_tup (pa_cons (pv 2) (pa_cons (pv 4) pa_nil))) pa_nil))))))
      (pss_one (ps_ret (pv 1))))), ?_⟩
  obtain ⟨xo, o1, o2⟩ := hT
  have lxo : T.length = xo.length := o2.length
  refine fun d hd => ?_
  have gd := same_new hd (.dK [])
  have ed := upd_same (H := H) (a := d) (o := .dK [])
  have o2d := paired_mono (fun _ _ => StV.mono (Same.grow gd)) o2
  generalize upd H d (.dK []) = Hd at gd ed o2d ⊢
  refine ⟨_, rfl, p, rfl, ⟨xo, gd.seq o1⟩, ?_⟩
  refine comp_list (xs := xo) (fun i ys τ H' => Same Hd H' ∧ (∃ x, τ = [x]) ∧ i ≤ xo.length ∧ Paired (KyR H') (((T.take i).map mvOf).map k3) ys) ⟨Same.refl _, ⟨_, rfl⟩, Nat.zero_le _, .nil⟩ (fun i ys τ H' z => z.1.seq (gd.seq o1)) ?_ ?_
  · rintro i x ys τ H1 hx ⟨g1, ⟨x0, rfl⟩, hi, hP⟩
    obtain ⟨t, ht, b, rfl, hb⟩ := paired_get o2d hx
    have hil : i < xo.length := (List.getElem?_eq_some_iff.mp hx).1
    have hb1 := (Same.grow g1).seqT hb
    have hyl : ys.length ≤ 99 := by rw [← hP.length, List.length_map, List.length_map, List.length_take]; omega
    refine ⟨_, rfl, _, _, _, _, rfl, rfl, hb1, rfl, _, rfl, _, _, _, _, rfl, rfl, hb1, rfl, _, rfl, _, _, _, _, rfl, rfl, hb1, rfl, (by show 3 ≤ sizeLine; decide), fun p hp => ⟨szl' (by omega), g1.trans (same_new hp _), ⟨_, rfl⟩, hil, ?_⟩⟩
    rw [take_get ht, List.map_append, List.map_append]
    exact paired_append (paired_mono (fun _ _ => KyR.mono (same_new hp _)) hP) (.cons ⟨p, rfl, upd_same⟩ .nil)
  rintro ys τ H1 ⟨g1, _, _, hP⟩ pl hpl
  rw [← lxo, List.take_length] at hP
  have gl := same_new hpl (.lst ys)
  have el := upd_same (H := H1) (a := pl) (o := .lst ys)
  have hP := paired_mono (fun _ _ => KyR.mono gl) hP
  have g1 := g1.trans gl
  generalize upd H1 pl (.lst ys) = H2 at el hP g1 ⊢
  refine ⟨pl, rfl, .inr ⟨ys, _, SqL.of el, hP, by rw [List.length_map, List.length_map]; omega, fun lm H3 bs g3 hlm elm hB => ?_⟩⟩
  rw [once_map k3_inj] at hB
  have hBl : (mvs T).length = bs.length := by have := hB.length; rw [List.length_map] at this; exact this
  have hml : (mvs T).length ≤ 99 := by have := once_len (T.map mvOf); rw [List.length_map] at this; exact Nat.le_trans this lT
  have g13 := g1.trans g3
  have ed3 := g13 _ _ ed
  refine ⟨lm, rfl, ⟨_, SqL.of elm⟩, ?_⟩
  have hlmd : lm ≠ d := fun z => by rw [z, ed3] at elm; cases elm
  refine for_list (xs := bs.map V.ref) (fun i σ H' => Same H H' ∧ i ≤ bs.length ∧ (∃ x2 x3 x4, σ = [some (.ref p), some (.ref d), x2, x3, x4]) ∧ H' lm = some (.lst (bs.map V.ref)) ∧ GT H3 H' ∧ ∃ kvs : List (Key × V), H' d = some (.dK kvs) ∧ Bk (PrV K) mvKey H H' d ((mvs T).take i) kvs ∧ ∀ k, valV kvs k ≠ some (.ref lm))
    ⟨gd.trans g13, Nat.zero_le _, ⟨_, _, _, rfl⟩, elm, GT.of (Same.refl _), [], ed3, Bk.nil, fun k z => by cases z⟩ (fun i σ H' _ z => SqL.of z.2.2.2.1) ?_ ?_
  · rintro i x σ H5 hx ⟨g5, hi, ⟨x2, x3, x4, rfl⟩, elm5, gt5, kvs, hkd, bk, hlk⟩
    rw [List.getElem?_map] at hx
    obtain ⟨b, hb, rfl⟩ := Option.map_eq_some_iff.mp hx
    have hil : i < bs.length := (List.getElem?_eq_some_iff.mp hb).1
    obtain ⟨k, hk, ebk⟩ := paired_get hB hb
    rw [List.getElem?_map] at hk
    obtain ⟨u, hu, rfl⟩ := Option.map_eq_some_iff.mp hk
    replace hu : (mvs T)[i]? = some u := hu
    have hb1 : SqT K H5 b [V.int u.1, V.str u.2.1, V.int u.2.2] := gt5.seqT (SqT.of ebk)
    have hkl : kvs.length ≤ 999 := by have := bk.len; rw [List.length_take] at this; omega
    refine ⟨b, _, rfl, hb1, rfl, _, _, rfl, _, _, rfl, _, _, rfl, rfl, ?_⟩
    refine ⟨_, rfl, .inr (.inr (.inl ⟨rfl, .inl ⟨kvs, hkd⟩⟩)), ?_⟩
    refine ⟨_, rfl, szl (by simp), fun l hl => ?_⟩
    have gl := same_new hl (.lst [])
    have hk2 := gl _ _ hkd
    have bk2 := bk.mono (prv_gt K) gl
    have g2 := g5.trans gl
    have el : upd H5 l (.lst []) l = some (.lst []) := upd_same
    have hl0 : H l = none := g5.free hl
    have hln : ∀ k, valV kvs k ≠ some (.ref l) := fun k hk => by
      obtain ⟨l', ys, e, _, _, h3', _⟩ := bk.there k _ hk
      injection e with e
      subst e
      rw [h3'] at hl; cases hl
    have hld : l ≠ d := (ne_of_none hkd hl).symm
    have hllm : lm ≠ l := ne_of_none elm5 hl
    have elm2 := gl _ _ elm5
    have gt2 := gt5.trans (GT.of gl)
    generalize upd H5 l (.lst []) = H6 at hk2 bk2 g2 el elm2 gt2 ⊢
    refine ⟨d, .str u.2.1, .ref l, rfl, rfl, .inl ⟨kvs, mvKey u, hk2, rfl, szl' (by omega), fun r hr2 => ?_, fun hn => ?_⟩⟩
    · obtain ⟨l2, ys, rfl, j1, j2, j3, j4, j5⟩ := bk2.there _ _ hr2
      have hyl : ys.length ≤ 999 := by
        rw [← j4.length]
        have := List.length_filter_le (fun t' => decide (mvKey t' = mvKey u)) ((mvs T).take i)
        rw [List.length_take] at this; omega
      have hl2m : lm ≠ l2 := fun z => hlk _ (z ▸ hr2)
      refine ⟨.inl ⟨rfl, _, SqL.of j3⟩, _, rfl, _, rfl, (by show 2 ≤ sizeLine; decide), fun p2 hp2 => ?_⟩
      have gp := same_new hp2 (.tup [V.int u.1, V.int u.2.2])
      have ep := upd_same (H := H6) (a := p2) (o := .tup [V.int u.1, V.int u.2.2])
      have j3 := gp _ _ j3
      have hk2 := gp _ _ hk2
      have bk2 := bk2.mono (prv_gt K) gp
      have g2 := g2.trans gp
      have elm2 := gp _ _ elm2
      have gt2 := gt2.trans (GT.of gp)
      dsimp only at hp2 ⊢
      generalize upd H6 p2 (.tup [V.int u.1, V.int u.2.2]) = H7 at ep j3 hk2 bk2 g2 elm2 gt2 ⊢
      refine ⟨l2, ys, _, rfl, rfl, j3, szl' (by omega), ?_⟩
      refine ⟨same_updN g2 j1, hil, ⟨_, _, _, rfl⟩, (upd_ne hl2m).trans elm2, gt2.trans (gt_lst j3 _), kvs, by rw [upd_ne j2.symm]; exact hk2, ?_, hlk⟩
      rw [take_get hu]
      exact bk2.put (prv_gt K) hr2 j3 ⟨p2, rfl, SqT.of ep⟩
    · have e3 : upd H6 d (.dK (putK kvs (mvKey u) (.ref l))) l = some (.lst []) := by rw [upd_ne hld]; exact el
      refine ⟨.inl ⟨rfl, _, SqL.of e3⟩, _, rfl, _, rfl, (by show 2 ≤ sizeLine; decide), fun p2 hp2 => ?_⟩
      have hp2' : H6 p2 = none := by
        by_cases z : p2 = d
        · subst z; rw [upd_same] at hp2; cases hp2
        · rwa [upd_ne z] at hp2
      have hpd : p2 ≠ d := fun z => by subst z; rw [upd_same] at hp2; cases hp2
      have hpl2 : p2 ≠ l := (ne_of_none el hp2').symm
      have gp := same_new hp2' (.tup [V.int u.1, V.int u.2.2])
      have ep := upd_same (H := H6) (a := p2) (o := .tup [V.int u.1, V.int u.2.2])
      have e4 : upd (upd H6 d (.dK (putK kvs (mvKey u) (.ref l)))) p2 (.tup [V.int u.1, V.int u.2.2]) = upd (upd H6 p2 (.tup [V.int u.1, V.int u.2.2])) d (.dK (putK kvs (mvKey u) (.ref l))) := by
        funext z
        by_cases z1 : z = p2
        · subst z1; rw [upd_same, upd_ne hpd, upd_same]
        · by_cases z2 : z = d
          · subst z2; rw [upd_ne z1, upd_same, upd_same]
          · rw [upd_ne z1, upd_ne z2, upd_ne z2, upd_ne z1]
      dsimp only at hp2 ⊢
      rw [e4]
      have hk2 := gp _ _ hk2
      have bk2 := bk2.mono (prv_gt K) gp
      have g2 := g2.trans gp
      have el := gp _ _ el
      have elm2 := gp _ _ elm2
      have gt2 := gt2.trans (GT.of gp)
      clear e3 e4
      generalize upd H6 p2 (.tup [V.int u.1, V.int u.2.2]) = H7 at ep hk2 bk2 g2 el elm2 gt2 ⊢
      have e3 : upd H7 d (.dK (putK kvs (mvKey u) (.ref l))) l = some (.lst []) := by rw [upd_ne hld]; exact el
      refine ⟨l, [], _, rfl, rfl, e3, szl' (by simp), ?_⟩
      refine ⟨same_updN (same_updN g2 hd) hl0, hil, ⟨_, _, _, rfl⟩, by rw [upd_ne hllm, upd_ne hlmd]; exact elm2, (gt2.trans (gt_upd hk2 (fun _ z => nomatch z) (fun _ _ z => nomatch z) _)).trans (gt_lst e3 _), putK kvs (mvKey u) (.ref l), by rw [upd_ne hld.symm]; exact upd_same, ?_, ?_⟩
      · rw [take_get hu]
        exact bk2.new (prv_gt K) hn hl0 hld hk2 (fun _ z => nomatch z) (fun _ _ z => nomatch z) hln el ⟨p2, rfl, SqT.of ep⟩
      · intro k z
        rw [valV_put] at z
        by_cases c : k = mvKey u
        · rw [if_pos c] at z; injection z with z; injection z with z; exact hllm z.symm
        · rw [if_neg c] at z; exact hlk k z
  rintro σ H5 ⟨g5, _, ⟨x2, x3, x4, rfl⟩, _, _, kvs, hkd, bk, _⟩
  rw [List.length_map, ← hBl, List.take_length] at bk
  exact ⟨_, rfl, q _ _ g5 ⟨d, kvs, rfl, hkd, bk⟩⟩

theorem sc_kept_steps : FnScope ["steps", "others", "count", "moves", "kept", "start", "sign", "word", "goal", "out_of", "into"] ["steps", "others", "count"] (defScope s_kept_steps) := ⟨rfl, rfl, rfl, by decide +kernel, rfl, by decide +kernel, by decide +kernel⟩
theorem ok_kept_steps (B : Bi mg) {c_ScribeError c_NoWay c_NoRoom c_NotPlain c_OtherSigns c_TooMany c_TwoWays c_NeverPlain c_NoText : Addr} (XB : Xb K mg c_ScribeError c_NoWay c_NoRoom c_NotPlain c_OtherSigns c_TooMany c_TwoWays c_NeverPlain c_NoText) (C_moves_by_sign : Cal P w K mg base "moves_by_sign" ["steps"] 2 (spMoves K)) {f : Addr} {fd : FuncData} (F : Fun K "kept_steps" "kept_steps" s_kept_steps f fd) : FnOk P w K mg base CX0 3 f fd ["steps", "others", "count"] (spKeptS K) := by
  refine F.ok sc_kept_steps (fun vs H Q E h => ?_) (fun cdv A outer s H vs Q E hr h => ?_)
  · obtain ⟨p, o, n, M, T, rfl, _⟩ := h; rfl
  obtain ⟨p, o, n, M, T, rfl, hM, hT, lM, lT, hn, q⟩ := h
  refine ⟨_, (pss_cons (ps_set (i := 3) sc_kept_steps.nd rfl (Or.inl rfl) (pe_fn C_moves_by_sign hr (by decide : 2 ≤ 2) (by rfl) (pa_cons (pv 1) pa_nil)))
      (pss_cons (ps_set (i := 4) sc_kept_steps.nd rfl (Or.inl rfl) (pe_lst pa_nil))
      (pss_cons (ps_for PassesOwn.never (by rfl) (kPI (K := K) (fun k => iList k _) (pi_list (pv 0))) (kPG (K := K) (fun k => gTup k 4 _) (pg_tup (n := 4) (by rfl) (pgs_cons (pg_name (i := 5) sc_kept_steps.nd rfl (Or.inl rfl)) (pgs_cons (pg_name (i := 6) sc_kept_steps.nd rfl (Or.inl rfl)) (pgs_cons (pg_name (i := 7) sc_kept_steps.nd rfl (Or.inl rfl)) (pgs_cons (pg_name (i := 8) sc_kept_steps.nd rfl (Or.inl rfl)) pgs_nil)))))) (pss_one (ps_for PassesOwn.never (by rfl) (kPI (K := K) (fun k => iList k _) (pi_list (kPE (K := K) (fun k => tBM k _ _ _ _) (pe_bm PySem.F.plainAttrs_dict PySem.F.slot_dict_get PySem.F.type_dict_get (mt_get2 hr) (pv 3) (pa_cons (pv 6) (pa_cons (hs := starL) (pe_lst pa_nil) pa_nil)))))) (kPG (K := K) (fun k => gTup k 2 _) (pg_tup (n := 2) (by rfl) (pgs_cons (pg_name (i := 9) sc_kept_steps.nd rfl (Or.inl rfl)) (pgs_cons (pg_name (i := 10) sc_kept_steps.nd rfl (Or.inl rfl)) pgs_nil)))) (pss_one (ps_expr (kPE (K := K) (fun k => tBM k _ _ _ _) (pe_bm PySem.F.plainAttrs_list PySem.F.slot_list_append PySem.F.type_list_append mt_append (pv 4) (pa_cons (hs := starT) (pe_tup (pa_cons (hs := starB) (pe_op op_add (pe_op op_mul (pv 5) (pv 2)) (pv 9)) (pa_cons (pv 6) (pa_cons (pv 7) (pa_cons (hs := starB) (pe_op op_add (pe_op op_mul (pv 8) (pv 2)) (pv 10)) pa_nil))))) pa_nil))))))))
      (pss_one (ps_ret (pv 4)))))), ?_⟩
  obtain ⟨xm, m1, m2⟩ := hM
  have lxm : M.length = xm.length := m2.length
  have hn0 := hn.1
  have hn1 := hn.2
  refine ⟨_, rfl, o, T, rfl, hT, lT, fun vd H1 g1 hD => ?_⟩
  have hml : (mvs T).length ≤ 99 := by have := once_len (T.map mvOf); rw [List.length_map] at this; exact Nat.le_trans this lT
  refine ⟨szl (by simp), fun pk hpk => ?_⟩
  have gk := same_new hpk (.lst [])
  have ek := upd_same (H := H1) (a := pk) (o := .lst [])
  generalize upd H1 pk (.lst []) = H3 at gk ek ⊢
  have m2' := paired_mono (fun _ _ => StV.mono (Same.grow g1)) m2
  refine ⟨_, rfl, p, rfl, ⟨xm, (g1.trans gk).seq m1⟩, ?_⟩
  refine for_list (xs := xm) (fun i σ H' => Same H1 H' ∧ i ≤ xm.length ∧ (∃ x5 x6 x7 x8 x9 x10, σ = [some (.ref p), some (.ref o), some (.int n), some vd, some (.ref pk), x5, x6, x7, x8, x9, x10]) ∧ ∃ zs, H' pk = some (.lst zs) ∧ Paired (StV K H') (kpT n (M.take i) T) zs)
    ⟨gk, Nat.zero_le _, ⟨_, _, _, _, _, _, rfl⟩, [], ek, .nil⟩ (fun i σ H' _ z => (g1.trans z.1).seq m1) ?_ ?_
  · rintro i x σ H5 hx ⟨g5, hi, ⟨x5, x6, x7, x8, x9, x10, rfl⟩, zs, ez, hP⟩
    obtain ⟨t, ht, b, rfl, hb⟩ := paired_get m2' hx
    have hil : i < xm.length := (List.getElem?_eq_some_iff.mp hx).1
    have hb1 := (Same.grow g5).seqT hb
    refine ⟨b, _, rfl, hb1, rfl, _, _, rfl, _, _, rfl, _, _, rfl, _, _, rfl, rfl, ?_⟩
    obtain ⟨d0, kv0, e0, hd0, _⟩ := id (hD.mono g5)
    subst e0
    refine ⟨_, rfl, .inr (.inr (.inl ⟨rfl, .inl ⟨kv0, hd0⟩⟩)), _, rfl, szl (by simp), fun l hl => ?_⟩
    have hlk : l ≠ pk := (ne_of_none ez hl).symm
    have gl := same_new hl (.lst [])
    have el := upd_same (H := H5) (a := l) (o := .lst [])
    have ez2 := gl _ _ ez
    have hP2 := paired_mono (fun _ _ => StV.mono (Same.grow gl)) hP
    have g6 := g5.trans gl
    generalize upd H5 l (.lst []) = H6 at el ez2 hP2 g6 ⊢
    obtain ⟨d, oo, la, ys, ed, hget, hgd, hla, hpy, hor⟩ := hD.get3 (g := t.2.1) g6 el
    injection ed with ed
    subst ed
    have hlp : la ≠ pk := by
      rcases hor with z | ⟨u, hu⟩
      · rw [z]; exact hlk
      · exact ne_of_none hu hpk
    refine ⟨d0, _, _, oo, rfl, rfl, hget, ?_⟩
    rw [hgd]
    refine ⟨la, rfl, ⟨ys, SqL.of hla⟩, ?_⟩
    have lz : (kpT n (M.take i) T).length ≤ 9801 := by have := kpT_len n T lT (M.take i); rw [List.length_take] at this; omega
    have ly : ys.length ≤ 99 := by rw [← hpy.length]; exact Nat.le_trans (List.length_filter_le _ _) hml
    refine for_list (xs := ys) (fun j σ H' => Same H1 H' ∧ j ≤ ys.length ∧ (∃ x9 x10, σ = [some (.ref p), some (.ref o), some (.int n), some (.ref d0), some (.ref pk), some (.int t.1), some (.str t.2.1), some (.str t.2.2.1), some (.int t.2.2.2), x9, x10]) ∧ H' la = some (.lst ys) ∧ GT H6 H' ∧ ∃ zs, H' pk = some (.lst zs) ∧ Paired (StV K H') (kpT n (M.take i) T ++ (((mvs T).filter (fun u => decide (u.2.1 = t.2.1))).take j).map (onT n t)) zs)
      ⟨g6, Nat.zero_le _, ⟨_, _, rfl⟩, hla, GT.of (Same.refl _), zs, ez2, by rw [List.take_zero, List.map_nil, List.append_nil]; exact hP2⟩ (fun j σ H' _ z => SqL.of z.2.2.2.1) ?_ ?_
    · rintro j y σ H7 hy ⟨g7, hj, ⟨x9, x10, rfl⟩, hla7, gt7, zs, ez, hP⟩
      obtain ⟨u, hu, b2, rfl, hb2⟩ := paired_get hpy hy
      have hjl : j < ys.length := (List.getElem?_eq_some_iff.mp hy).1
      have hb27 := gt7.seqT hb2
      have hzl : zs.length ≤ 9999 := by rw [← hP.length, List.length_append, List.length_map, List.length_take]; omega
      refine ⟨b2, _, rfl, hb27, rfl, _, _, rfl, _, _, rfl, rfl, ?_⟩
      refine ⟨_, rfl, .inl ⟨rfl, _, SqL.of ez⟩, _, rfl, _, rfl, _, _, rfl, rfl, .inr ⟨by omega, by omega⟩, _, rfl, _, _, rfl, rfl, _, rfl, _, rfl, _, rfl, _, rfl, _, _, rfl, rfl, .inr ⟨by omega, by omega⟩, _, rfl, _, _, rfl, rfl, (by show 4 ≤ sizeLine; decide), fun p2 hp2 => ?_⟩
      have gp := same_new hp2 (.tup [V.int (t.1 * n + u.1), V.str t.2.1, V.str t.2.2.1, V.int (t.2.2.2 * n + u.2.2)])
      have ep := upd_same (H := H7) (a := p2) (o := .tup [V.int (t.1 * n + u.1), V.str t.2.1, V.str t.2.2.1, V.int (t.2.2.2 * n + u.2.2)])
      have ez := gp _ _ ez
      have hla7 := gp _ _ hla7
      have gt7 := gt7.trans (GT.of gp)
      have g8 := g7.trans gp
      have hP := paired_mono (fun _ _ => StV.mono (Same.grow gp)) hP
      dsimp only at hp2 ⊢
      generalize upd H7 p2 (.tup [V.int (t.1 * n + u.1), V.str t.2.1, V.str t.2.2.1, V.int (t.2.2.2 * n + u.2.2)]) = H8 at ep ez hla7 gt7 g8 hP ⊢
      have gt : GT H8 (upd H8 pk (.lst (zs ++ [.ref p2]))) := gt_upd ez (fun _ z => nomatch z) (fun _ _ z => nomatch z) _
      refine ⟨pk, zs, _, rfl, rfl, ez, szl' (by omega), same_updN g8 hpk, hjl, ⟨_, _, rfl⟩, (upd_ne hlp).trans hla7, gt7.trans gt, zs ++ [.ref p2], upd_same, ?_⟩
      rw [take_get hu, List.map_append, ← List.append_assoc]
      exact paired_append (paired_mono (fun _ _ => StV.gt gt) hP) (.cons ⟨p2, rfl, gt.seqT (SqT.of ep)⟩ .nil)
    rintro σ H7 ⟨g7, _, ⟨x9, x10, rfl⟩, _, _, zs, ez, hP⟩
    refine ⟨g7, hil, ⟨_, _, _, _, _, _, rfl⟩, zs, ez, ?_⟩
    rw [← hpy.length, List.take_length] at hP
    rw [kpT_take ht]
    exact hP
  rintro σ H5 ⟨g5, _, ⟨x5, x6, x7, x8, x9, x10, rfl⟩, zs, ez, hP⟩
  rw [← lxm, List.take_length] at hP
  exact ⟨_, rfl, q pk _ (g1.trans g5) (g1.free hpk) ⟨zs, ez, hP⟩⟩

theorem sc_kept_to : FnScope ["scribe", "other", "count", "begins", "steps", "ends"] ["scribe", "other"] (defScope s_kept_to) := ⟨rfl, rfl, rfl, by decide +kernel, rfl, by decide +kernel, by decide +kernel⟩
theorem ok_kept_to (B : Bi mg) {c_ScribeError c_NoWay c_NoRoom c_NotPlain c_OtherSigns c_TooMany c_TwoWays c_NeverPlain c_NoText : Addr} (XB : Xb K mg c_ScribeError c_NoWay c_NoRoom c_NotPlain c_OtherSigns c_TooMany c_TwoWays c_NeverPlain c_NoText) (C_refuse_other_signs : Cal1 P w K mg base "refuse_other_signs" ["one", "other"] 1 (spOther K c_OtherSigns)) (C_refuse_many_pairs : Cal1 P w K mg base "refuse_many_pairs" ["one", "other"] 1 (spPairsN K c_TooMany)) (C_kept_marks : Cal P w K mg base "kept_marks" ["marks", "others", "count"] 2 (spKeptM K)) (C_kept_steps : Cal P w K mg base "kept_steps" ["steps", "others", "count"] 3 (spKeptS K)) {f : Addr} {fd : FuncData} (F : Fun K "kept_to" "kept_to" s_kept_to f fd) : FnOk P w K mg base (CX1 P w) 4 f fd ["scribe", "other"] (spKept K c_OtherSigns c_TooMany) := by
  refine Fun.ok1 F sc_kept_to (fun vs H Q E h => ?_) (fun cdv A outer s H vs Q E hr h => ?_)
  · obtain ⟨v, s, pb, ps, pe, w, u, qb, qs, qe, rfl, _⟩ := h; rfl
  obtain ⟨v, s, pb, ps, pe, w, u, qb, qs, qe, rfl, hV, hU, ls_, lu, hn, hm, qS, qT, q⟩ := h
  refine ⟨_, (pss_cons (ps_expr (pe_fn1 C_refuse_other_signs hr (by decide : 1 ≤ 3) (by rfl) pass_on (pa_cons (pv 0) (pa_cons (pv 1) pa_nil))))
      (pss_cons (ps_expr (pe_fn1 C_refuse_many_pairs hr (by decide : 1 ≤ 3) (by rfl) pass_on (pa_cons (pv 0) (pa_cons (pv 1) pa_nil))))
      (pss_cons (ps_set (i := 2) sc_kept_to.nd rfl (Or.inl rfl) (pe_ix (kIx (K := K) rIxT ix_tup) (pv 1) (pe_globI (by rfl) B.ROOMS) (by intro _ _; rfl)))
      (pss_cons (ps_set (i := 3) sc_kept_to.nd rfl (Or.inl rfl) (pe_fn C_kept_marks hr (by decide : 2 ≤ 3) (by rfl) (pa_cons (hs := starS) (pe_ix (kIx (K := K) rIxT ix_tup) (pv 0) (pe_globI (by rfl) B.BEGINS) (by intro _ _; rfl)) (pa_cons (hs := starS) (pe_ix (kIx (K := K) rIxT ix_tup) (pv 1) (pe_globI (by rfl) B.BEGINS) (by intro _ _; rfl)) (pa_cons (pv 2) pa_nil)))))
      (pss_cons (ps_set (i := 4) sc_kept_to.nd rfl (Or.inl rfl) (pe_fn C_kept_steps hr (by decide : 3 ≤ 3) (by rfl) (pa_cons (hs := starS) (pe_ix (kIx (K := K) rIxT ix_tup) (pv 0) (pe_globI (by rfl) B.STEPS) (by intro _ _; rfl)) (pa_cons (hs := starS) (pe_ix (kIx (K := K) rIxT ix_tup) (pv 1) (pe_globI (by rfl) B.STEPS) (by intro _ _; rfl)) (pa_cons (pv 2) pa_nil)))))
      (pss_cons (ps_set (i := 5) sc_kept_to.nd rfl (Or.inl rfl) (pe_fn C_kept_marks hr (by decide : 2 ≤ 3) (by rfl) (pa_cons (hs := starS) (pe_ix (kIx (K := K) rIxT ix_tup) (pv 0) (pe_globI (by rfl) B.ENDS) (by intro _ _; rfl)) (pa_cons (hs := starS) (pe_ix (kIx (K := K) rIxT ix_tup) (pv 1) (pe_globI (by rfl) B.ENDS) (by intro _ _; rfl)) (pa_cons (pv 2) pa_nil)))))
      (pss_one (ps_ret (pe_tup (pa_cons (hs := starS) (pe_ix (kIx (K := K) rIxT ix_tup) (pv 0) (pe_globI (by rfl) B.SIGNS) (by intro _ _; rfl)) (pa_cons (hs := starB) (pe_op op_mul (pe_ix (kIx (K := K) rIxT ix_tup) (pv 0) (pe_globI (by rfl) B.ROOMS) (by intro _ _; rfl)) (pv 2)) (pa_cons (pv 3) (pa_cons (pv 4) (pa_cons (pv 5) pa_nil)))))))))))))), ?_⟩
  refine ⟨_, rfl, _, rfl, v, s, pb, ps, pe, w, u, qb, qs, qe, rfl, hV, hU, fun hs => ?_, fun hs => qS hs⟩
  refine ⟨_, rfl, _, rfl, v, s, pb, ps, pe, w, u, qb, qs, qe, rfl, hV, hU, hn, fun hc => ?_, fun hc => qT hs hc⟩
  replace q := q hs hc
  obtain ⟨a, xb, xs, xe, rfl, h1, h2, h3, h4, h5, h6, h7⟩ := hV
  obtain ⟨b, yb, ys, ye, rfl, k1, k2, k3, k4, k5, k6, k7⟩ := hU
  refine ⟨_, rfl, _, _, _, _, rfl, rfl, k1, rfl, ?_⟩
  refine ⟨_, rfl, _, _, _, _, rfl, rfl, h1, rfl, _, rfl, _, _, _, _, rfl, rfl, k1, rfl, _, rfl, pb, qb, u.rooms, s.begins, u.begins, rfl, ⟨xb, h2, h5⟩, ⟨yb, k2, k5⟩, ls_.lb, lu.lb, hm, fun fa H1 g1 hfa wa => ?_⟩
  have t1 := Same.seqT g1 h1
  have u1 := Same.seqT g1 k1
  have m3 : StL K H1 ps s.steps := StL.mono g1 ⟨xs, h3, h6⟩
  have n3 : StL K H1 qs u.steps := StL.mono g1 ⟨ys, k3, k6⟩
  refine ⟨_, rfl, _, _, _, _, rfl, rfl, t1, rfl, _, rfl, _, _, _, _, rfl, rfl, u1, rfl, _, rfl, ps, qs, u.rooms, s.steps, u.steps, rfl, m3, n3, ls_.ls, lu.ls, hm, fun fb H2 g2 hfb wb => ?_⟩
  have g12 := g1.trans g2
  have t2 := Same.seqT g12 h1
  have u2 := Same.seqT g12 k1
  have m4 : MkL K H2 pe s.ends := MkL.mono g12 ⟨xe, h4, h7⟩
  have n4 : MkL K H2 qe u.ends := MkL.mono g12 ⟨ye, k4, k7⟩
  refine ⟨_, rfl, _, _, _, _, rfl, rfl, t2, rfl, _, rfl, _, _, _, _, rfl, rfl, u2, rfl, _, rfl, pe, qe, u.rooms, s.ends, u.ends, rfl, m4, n4, ls_.le, lu.le, hm, fun fc H3 g3 hfc wc => ?_⟩
  have g13 := g12.trans g3
  have t3 := Same.seqT g13 h1
  refine ⟨_, rfl, _, _, _, _, rfl, rfl, t3, rfl, _, rfl, _, _, _, _, rfl, rfl, t3, rfl, _, rfl, _, _, rfl, rfl, .inl ⟨by have := hn.1; omega, by have := hn.2; omega⟩, _, rfl, _, rfl, _, rfl, (by show 5 ≤ sizeLine; decide), fun v hv => ?_⟩
  have gv := same_new hv (.tup [V.str s.signs, V.int (s.rooms * u.rooms), V.ref fa, V.ref fb, V.ref fc])
  have ev := upd_same (H := H3) (a := v) (o := .tup [V.str s.signs, V.int (s.rooms * u.rooms), V.ref fa, V.ref fb, V.ref fc])
  dsimp only at hv ⊢
  generalize upd H3 v (.tup [V.str s.signs, V.int (s.rooms * u.rooms), V.ref fa, V.ref fb, V.ref fc]) = H4 at gv ev ⊢
  obtain ⟨za, ea, Pa⟩ := wa
  obtain ⟨zb, eb, Pb⟩ := wb
  obtain ⟨zc, ec, Pc⟩ := wc
  have ga := (g2.trans g3).trans gv
  have gb := g3.trans gv
  exact q _ _ fa fb fc (g13.trans gv) ⟨v, za, zb, zc, rfl, SqT.of ev, ga _ _ ea, gb _ _ eb, gv _ _ ec, paired_mono (fun _ _ => MkV.mono (Same.grow ga)) Pa, paired_mono (fun _ _ => StV.mono (Same.grow gb)) Pb, paired_mono (fun _ _ => MkV.mono (Same.grow gv)) Pc⟩
    ⟨hfa, g1.free hfb, g12.free hfc, ne_of_none ea hfb, ne_of_none (g2 _ _ ea) hfc, ne_of_none eb hfc⟩

theorem sc_law_cell_at : FnScope ["_law_script", "_law_k"] ["_law_script", "_law_k"] (defScope s_law_cell_at) := ⟨rfl, rfl, rfl, by decide +kernel, rfl, by decide +kernel, by decide +kernel⟩
theorem ok_law_cell_at (B : Bi mg) {c_ScribeError c_NoWay c_NoRoom c_NotPlain c_OtherSigns c_TooMany c_TwoWays c_NeverPlain c_NoText : Addr} (XB : Xb K mg c_ScribeError c_NoWay c_NoRoom c_NotPlain c_OtherSigns c_TooMany c_TwoWays c_NeverPlain c_NoText)  {f : Addr} {fd : FuncData} (F : Fun K "_law_cell_at" "_law_cell_at" s_law_cell_at f fd) : FnOk P w K mg base CX0 1 f fd ["_law_script", "_law_k"] (spCell K) := by
  refine F.ok sc_law_cell_at (fun vs H Q E h => ?_) (fun cdv A outer s H vs Q E hr h => ?_)
  · obtain ⟨a, ns, k, rfl, _⟩ := h; rfl
  obtain ⟨a, ns, k, rfl, hS, hk, q⟩ := h
  refine ⟨_, (pss_cons (ps_if (pt_cmpR op_lt (pv 1) (pe_callB (kLen (K := K)) (by rfl) B.len bt_len (pa_cons (pv 0) pa_nil)) (nomark _)) (pss_one (ps_ret (pe_ix (kIx (K := K) rIxL ix_list) (pv 0) (pv 1) (by intro _ _; rfl)))) pss_nil)
      (pss_one (ps_ret pe_int))), ?_⟩
  refine ⟨_, rfl, _, rfl, a, _, rfl, .inl hS, _, _, rfl, rfl, _, rfl, ?_⟩
  rw [List.length_map]
  refine iteDd (fun c => ?_) (fun c => ?_)
  · obtain ⟨v, h1, h2⟩ := at_some (xs := ns) hk c
    refine ⟨_, rfl, _, rfl, a, _, _, .int v, rfl, rfl, hS, ?_, ?_⟩
    · obtain ⟨j, rfl⟩ := Int.eq_ofNat_of_zero_le hk
      exact atI_nat (by rw [List.getElem?_map]; rw [Int.toNat_natCast] at h2; rw [h2]; rfl)
    · have e : cellAt ns k = v := by unfold cellAt; rw [if_pos c, h2]; rfl
      rw [← e]; exact q
  · have e : cellAt ns k = 0 := by unfold cellAt; rw [if_neg c]
    rw [e] at q
    exact q

theorem sc_law_mixed : FnScope ["_law_cell", "_law_k", "_law_number"] ["_law_cell", "_law_k"] (defScope s_law_mixed) := ⟨rfl, rfl, rfl, by decide +kernel, rfl, by decide +kernel, by decide +kernel⟩
theorem ok_law_mixed (B : Bi mg) {c_ScribeError c_NoWay c_NoRoom c_NotPlain c_OtherSigns c_TooMany c_TwoWays c_NeverPlain c_NoText : Addr} (XB : Xb K mg c_ScribeError c_NoWay c_NoRoom c_NotPlain c_OtherSigns c_TooMany c_TwoWays c_NeverPlain c_NoText)  {f : Addr} {fd : FuncData} (F : Fun K "_law_mixed" "_law_mixed" s_law_mixed f fd) : FnOk P w K mg base CX0 1 f fd ["_law_cell", "_law_k"] (spMixed) := by
  refine F.ok sc_law_mixed (fun vs H Q E h => ?_) (fun cdv A outer s H vs Q E hr h => ?_)
  · obtain ⟨c, k, rfl, _⟩ := h; rfl
  obtain ⟨c, k, rfl, q⟩ := h
  refine ⟨_, (pss_cons (ps_set (i := 2) sc_law_mixed.nd rfl (Or.inl rfl) (pe_abs (pe_op op_mod (pe_op op_add (pe_op op_add (pe_op op_mul (pe_op op_mod (pv 0) pe_int) pe_int) (pe_op op_mul (pv 1) pe_int)) pe_int) pe_int)))
      (pss_cons (ps_set (i := 2) sc_law_mixed.nd rfl (Or.inl rfl) (pe_abs (pe_op op_mod (pe_op op_mul (pv 2) (pv 2)) pe_int)))
      (pss_one (ps_ret (pe_op op_mod (pe_op op_mul (pv 2) (pv 2)) pe_int))))), ?_⟩
  refine ⟨fun v H' => H = H' ∧ isNum 0 2147483647 v, ⟨_, rfl, _, _, rfl, rfl, pz, _, _, rfl, rfl, .inr ⟨by decide, by decide⟩, _, rfl, _, _, rfl, rfl, .inr ⟨by decide, by decide⟩, _, _, rfl, rfl, _, _, rfl, rfl, _, _, rfl, rfl, pz, rfl, _, rfl, by omega, by omega⟩, ?_⟩
  rintro _ _ ⟨rfl, n, rfl, h0, h1⟩
  refine ⟨fun v H' => H = H' ∧ isNum 0 2147483647 v, ⟨_, rfl, _, rfl, _, _, rfl, rfl, .inl ⟨by omega, by omega⟩, _, _, rfl, rfl, pz, rfl, _, rfl, by omega, by omega⟩, ?_⟩
  rintro _ _ ⟨rfl, m, rfl, h2, h3⟩
  exact ⟨_, rfl, _, rfl, _, _, rfl, rfl, .inl ⟨by omega, by omega⟩, _, _, rfl, rfl, pz, q _ (Int.emod_nonneg _ (by decide)) (Int.emod_lt_of_pos _ (by decide))⟩

theorem sc_law_copy : FnScope ["_law_scribe"] ["_law_scribe"] (defScope s_law_copy) := ⟨rfl, rfl, rfl, by decide +kernel, rfl, by decide +kernel, by decide +kernel⟩
theorem ok_law_copy (B : Bi mg) {c_ScribeError c_NoWay c_NoRoom c_NotPlain c_OtherSigns c_TooMany c_TwoWays c_NeverPlain c_NoText : Addr} (XB : Xb K mg c_ScribeError c_NoWay c_NoRoom c_NotPlain c_OtherSigns c_TooMany c_TwoWays c_NeverPlain c_NoText)  {f : Addr} {fd : FuncData} (F : Fun K "_law_copy" "_law_copy" s_law_copy f fd) : FnOk P w K mg base CX0 1 f fd ["_law_scribe"] (spCopied K) := by
  refine F.ok sc_law_copy (fun vs H Q E h => ?_) (fun cdv A outer s H vs Q E hr h => ?_)
  · obtain ⟨v, s, pb, ps, pe, rfl, _⟩ := h; rfl
  obtain ⟨v, s, pb, ps, pe, rfl, hV, q⟩ := h
  refine ⟨_, (pss_one (ps_ret (pe_tup (pa_cons (hs := starS) (pe_ix (kIx (K := K) rIxT ix_tup) (pv 0) pe_int (by intro _ _; rfl)) (pa_cons (hs := starS) (pe_ix (kIx (K := K) rIxT ix_tup) (pv 0) pe_int (by intro _ _; rfl)) (pa_cons (hs := starC) (pe_callTy (kCall (K := K) rLo call_list_of) (by rfl) B.list bt_list (pa_cons (hs := starS) (pe_ix (kIx (K := K) rIxT ix_tup) (pv 0) pe_int (by intro _ _; rfl)) pa_nil)) (pa_cons (hs := starC) (pe_callTy (kCall (K := K) rLo call_list_of) (by rfl) B.list bt_list (pa_cons (hs := starS) (pe_ix (kIx (K := K) rIxT ix_tup) (pv 0) pe_int (by intro _ _; rfl)) pa_nil)) (pa_cons (hs := starC) (pe_callTy (kCall (K := K) rLo call_list_of) (by rfl) B.list bt_list (pa_cons (hs := starS) (pe_ix (kIx (K := K) rIxT ix_tup) (pv 0) pe_int (by intro _ _; rfl)) pa_nil)) pa_nil)))))))), ?_⟩
  obtain ⟨a, xb, xs, xe, rfl, h1, h2, h3, h4, h5, h6, h7⟩ := hV
  refine ⟨_, rfl, _, _, _, _, rfl, rfl, h1, rfl, _, rfl, _, _, _, _, rfl, rfl, h1, rfl, _, rfl, _, _, _, _, rfl, rfl, h1, rfl, pb, xb, rfl, .inl h2, fun qb hqb => ?_⟩
  have g1 := same_new hqb (.lst xb)
  refine ⟨_, rfl, _, _, _, _, rfl, rfl, Same.seqT g1 h1, rfl, ps, xs, rfl, .inl (g1.seq h3), fun qs hqs => ?_⟩
  have g2 := g1.trans (same_new hqs (.lst xs))
  refine ⟨_, rfl, _, _, _, _, rfl, rfl, Same.seqT g2 h1, rfl, pe, xe, rfl, .inl (g2.seq h4), fun qe hqe => ⟨(by show 5 ≤ sizeLine; decide), fun v hv => ?_⟩⟩
  have g3 := g2.trans (same_new hqe (.lst xe))
  have gv := same_new hv (.tup [V.str s.signs, V.int s.rooms, V.ref qb, V.ref qs, V.ref qe])
  have hqs' : H qs = none := g1.free hqs
  have hqe' : upd H qb (.lst xb) qe = none := (same_new hqs (.lst xs)).free hqe
  have AP : Apart H qb qs qe := ⟨hqb, hqs', g1.free hqe', ne_of_none upd_same hqs, ne_of_none upd_same hqe', ne_of_none upd_same hqe⟩
  have eb : upd (upd (upd H qb (.lst xb)) qs (.lst xs)) qe (.lst xe) qb = some (.lst xb) := by rw [upd_ne AP.be, upd_ne AP.bs]; exact upd_same
  have es : upd (upd (upd H qb (.lst xb)) qs (.lst xs)) qe (.lst xe) qs = some (.lst xs) := by rw [upd_ne AP.se]; exact upd_same
  have ee : upd (upd (upd H qb (.lst xb)) qs (.lst xs)) qe (.lst xe) qe = some (.lst xe) := upd_same
  have G := Same.grow (g3.trans gv)
  exact q _ _ qb qs qe (g3.trans gv) ⟨v, xb, xs, xe, rfl, SqT.of upd_same, gv _ _ eb, gv _ _ es, gv _ _ ee, paired_mono (fun _ _ => MkV.mono G) h5, paired_mono (fun _ _ => StV.mono G) h6, paired_mono (fun _ _ => MkV.mono G) h7⟩ AP

theorem sc_law_alone : FnScope ["_law_error", "_law_told"] ["_law_error"] (defScope s_law_alone) := ⟨rfl, rfl, rfl, by decide +kernel, rfl, by decide +kernel, by decide +kernel⟩
theorem ok_law_alone (B : Bi mg) {c_ScribeError c_NoWay c_NoRoom c_NotPlain c_OtherSigns c_TooMany c_TwoWays c_NeverPlain c_NoText : Addr} (XB : Xb K mg c_ScribeError c_NoWay c_NoRoom c_NotPlain c_OtherSigns c_TooMany c_TwoWays c_NeverPlain c_NoText)  {f : Addr} {fd : FuncData} (F : Fun K "_law_alone" "_law_alone" s_law_alone f fd) : FnOk P w K mg base CX0 1 f fd ["_law_error"] (spAlone2 K c_OtherSigns c_TooMany) := by
  refine F.ok sc_law_alone (fun vs H Q E h => ?_) (fun cdv A outer s H vs Q E hr h => ?_)
  · obtain ⟨x, c, rfl, _⟩ := h; rfl
  obtain ⟨x, c, rfl, hx, hc, q⟩ := h
  refine ⟨_, (pss_cons (ps_if (PW.pt (pw_or (pt_not (pt_val (pe_callB (kCall (K := K) rIsX call_isinstX) (by rfl) B.isinstance bt_isinstance (pa_cons (pv 0) (pa_cons (pe_globC (by rfl) XB.nm_ScribeError) pa_nil))))) (pw_or1 (pt_not (pt_val (pe_callB (kCall (K := K) rIsX call_isinstX) (by rfl) B.isinstance bt_isinstance (pa_cons (pv 0) (pa_cons (pe_ty (by rfl) B.ValueError bt_ValueError) pa_nil)))))))) (pss_one (ps_ret pe_bl)) pss_nil)
      (pss_cons (ps_set (i := 1) sc_law_alone.nd rfl (Or.inl rfl) (pe_lst (pa_cons (hs := starC) (pe_callB (kCall (K := K) rIsX call_isinstX) (by rfl) B.isinstance bt_isinstance (pa_cons (pv 0) (pa_cons (pe_globC (by rfl) XB.nm_NoWay) pa_nil))) (pa_cons (hs := starC) (pe_callB (kCall (K := K) rIsX call_isinstX) (by rfl) B.isinstance bt_isinstance (pa_cons (pv 0) (pa_cons (pe_globC (by rfl) XB.nm_NoRoom) pa_nil))) (pa_cons (hs := starC) (pe_callB (kCall (K := K) rIsX call_isinstX) (by rfl) B.isinstance bt_isinstance (pa_cons (pv 0) (pa_cons (pe_globC (by rfl) XB.nm_NotPlain) pa_nil))) pa_nil)))))
      (pss_cons (ps_set (i := 1) sc_law_alone.nd rfl (Or.inl rfl) (pe_op op_cat (pv 1) (pe_lst (pa_cons (hs := starC) (pe_callB (kCall (K := K) rIsX call_isinstX) (by rfl) B.isinstance bt_isinstance (pa_cons (pv 0) (pa_cons (pe_globC (by rfl) XB.nm_OtherSigns) pa_nil))) (pa_cons (hs := starC) (pe_callB (kCall (K := K) rIsX call_isinstX) (by rfl) B.isinstance bt_isinstance (pa_cons (pv 0) (pa_cons (pe_globC (by rfl) XB.nm_TooMany) pa_nil))) (pa_cons (hs := starC) (pe_callB (kCall (K := K) rIsX call_isinstX) (by rfl) B.isinstance bt_isinstance (pa_cons (pv 0) (pa_cons (pe_globC (by rfl) XB.nm_TwoWays) pa_nil))) pa_nil))))))
      (pss_cons (ps_set (i := 1) sc_law_alone.nd rfl (Or.inl rfl) (pe_op op_cat (pv 1) (pe_lst (pa_cons (hs := starC) (pe_callB (kCall (K := K) rIsX call_isinstX) (by rfl) B.isinstance bt_isinstance (pa_cons (pv 0) (pa_cons (pe_globC (by rfl) XB.nm_NeverPlain) pa_nil))) (pa_cons (hs := starC) (pe_callB (kCall (K := K) rIsX call_isinstX) (by rfl) B.isinstance bt_isinstance (pa_cons (pv 0) (pa_cons (pe_globC (by rfl) XB.nm_NoText) pa_nil))) pa_nil)))))
      (pss_one (ps_ret (pe_cmpR op_eq (pe_callB (kLen (K := K)) (by rfl) B.len bt_len (pa_cons (pe_comp rfl (blk_mk (N' := ["_law_one"]) (js := [none]) rfl (by decide +kernel) rfl (by decide +kernel) rfl rfl) (kPI (K := K) (fun k => iList k _) (pi_list (pv 1))) (fun _ _ _ _ _ => (pg_name (i := 0) (show List.Nodup (["_law_one"] : List Str) by decide +kernel) rfl (Or.inl rfl))) (fun _ _ _ _ _ => (pf_one (pt_val (pv 0)))) (fun _ _ _ _ _ => (pv 0))) pa_nil)) pe_int (nomark _)))))))), ?_⟩
  rcases hc with rfl | rfl
  · refine ⟨_, rfl, x, c_OtherSigns, _, _, _, rfl, hx, XB.xc_OtherSigns, rfl, XB.is_OtherSigns_ScribeError, _, rfl, iteF ?_⟩
    refine ⟨_, rfl, x, c_OtherSigns, _, _, _, rfl, hx, XB.xc_OtherSigns, rfl, XB.iv_OtherSigns_ValueError, _, rfl, iteF ?_⟩
    refine ⟨_, rfl, x, c_OtherSigns, _, _, _, rfl, hx, XB.xc_OtherSigns, rfl, XB.is_OtherSigns_NoWay, _, rfl, x, c_OtherSigns, _, _, _, rfl, hx, XB.xc_OtherSigns, rfl, XB.is_OtherSigns_NoRoom, _, rfl, x, c_OtherSigns, _, _, _, rfl, hx, XB.xc_OtherSigns, rfl, XB.is_OtherSigns_NotPlain, szl (by simp), fun p1 hp1 => ?_⟩
    have g1 := same_new hp1 (.lst [V.bl false, V.bl false, V.bl false])
    have e1 := upd_same (H := H) (a := p1) (o := .lst [V.bl false, V.bl false, V.bl false])
    have hx1 := g1 _ _ hx
    generalize upd H p1 (.lst [V.bl false, V.bl false, V.bl false]) = H1 at g1 e1 hx1 ⊢
    refine ⟨_, rfl, _, rfl, x, c_OtherSigns, _, _, _, rfl, hx1, XB.xc_OtherSigns, rfl, XB.is_OtherSigns_OtherSigns, _, rfl, x, c_OtherSigns, _, _, _, rfl, hx1, XB.xc_OtherSigns, rfl, XB.is_OtherSigns_TooMany, _, rfl, x, c_OtherSigns, _, _, _, rfl, hx1, XB.xc_OtherSigns, rfl, XB.is_OtherSigns_TwoWays, szl (by simp), fun p2 hp2 => ?_⟩
    have k2 := same_new hp2 (.lst [V.bl true, V.bl false, V.bl false])
    refine ⟨p1, p2, _, _, rfl, rfl, k2 _ _ e1, upd_same, szl (by simp), fun p3 hp3 => ?_⟩
    have k3 := same_new hp3 (.lst ([V.bl false, V.bl false, V.bl false] ++ [V.bl true, V.bl false, V.bl false]))
    have g3 := (g1.trans k2).trans k3
    have e3 := upd_same (H := upd H1 p2 (.lst [V.bl true, V.bl false, V.bl false])) (a := p3) (o := .lst ([V.bl false, V.bl false, V.bl false] ++ [V.bl true, V.bl false, V.bl false]))
    have hx3 := g3 _ _ hx
    generalize upd (upd H1 p2 (.lst [V.bl true, V.bl false, V.bl false])) p3 (.lst ([V.bl false, V.bl false, V.bl false] ++ [V.bl true, V.bl false, V.bl false])) = H3 at g3 e3 hx3 ⊢
    refine ⟨_, rfl, _, rfl, x, c_OtherSigns, _, _, _, rfl, hx3, XB.xc_OtherSigns, rfl, XB.is_OtherSigns_NeverPlain, _, rfl, x, c_OtherSigns, _, _, _, rfl, hx3, XB.xc_OtherSigns, rfl, XB.is_OtherSigns_NoText, szl (by simp), fun p4 hp4 => ?_⟩
    have k4 := same_new hp4 (.lst [V.bl false, V.bl false])
    refine ⟨p3, p4, _, _, rfl, rfl, k4 _ _ e3, upd_same, szl (by simp), fun p5 hp5 => ?_⟩
    have k5 := same_new hp5 (.lst ([V.bl false, V.bl false, V.bl false] ++ [V.bl true, V.bl false, V.bl false] ++ [V.bl false, V.bl false]))
    have g5 := (g3.trans k4).trans k5
    have e5 : upd (upd H3 p4 (.lst [V.bl false, V.bl false])) p5 (.lst ([V.bl false, V.bl false, V.bl false] ++ [V.bl true, V.bl false, V.bl false] ++ [V.bl false, V.bl false])) p5 = some (.lst (bsO.map V.bl)) := upd_same
    generalize upd (upd H3 p4 (.lst [V.bl false, V.bl false])) p5 (.lst ([V.bl false, V.bl false, V.bl false] ++ [V.bl true, V.bl false, V.bl false] ++ [V.bl false, V.bl false])) = H5 at g5 e5 ⊢
    refine ⟨_, rfl, p5, rfl, ⟨_, SqL.of e5⟩, ?_⟩
    refine comp_list (xs := bsO.map V.bl) (fun i ys τ H' => H5 = H' ∧ (∃ y, τ = [y]) ∧ i ≤ 8 ∧ ys = ((bsO.take i).filter id).map V.bl) ⟨rfl, ⟨_, rfl⟩, Nat.zero_le _, rfl⟩ (fun i ys τ H' z => z.1 ▸ SqL.of e5) ?_ ?_
    · rintro i y ys τ _ hy ⟨rfl, ⟨y0, rfl⟩, hi, rfl⟩
      rw [List.getElem?_map] at hy
      obtain ⟨b, hb, rfl⟩ := Option.map_eq_some_iff.mp hy
      have hil : i < 8 := (List.getElem?_eq_some_iff.mp hb).1
      have hyl : (((bsO.take i).filter id).map V.bl).length ≤ 999 := by
        rw [List.length_map]
        have := List.length_filter_le id (bsO.take i)
        rw [List.length_take] at this
        omega
      refine ⟨_, rfl, b, rfl, ?_⟩
      cases b with
      | true =>
        refine iteT ⟨_, rfl, szl' (by omega), rfl, ⟨_, rfl⟩, hil, ?_⟩
        rw [take_get hb, List.filter_append, List.map_append]; rfl
      | false =>
        refine iteF ⟨rfl, ⟨_, rfl⟩, hil, ?_⟩
        rw [take_get hb, List.filter_append, List.map_append]
        show _ = _ ++ []
        rw [List.append_nil]
    rintro ys τ _ ⟨rfl, _, _, rfl⟩ p6 hp6
    refine ⟨p6, _, rfl, .inl (SqL.of upd_same), rfl, ?_⟩
    exact q _ (g5.trans (same_new hp6 _))
  · refine ⟨_, rfl, x, c_TooMany, _, _, _, rfl, hx, XB.xc_TooMany, rfl, XB.is_TooMany_ScribeError, _, rfl, iteF ?_⟩
    refine ⟨_, rfl, x, c_TooMany, _, _, _, rfl, hx, XB.xc_TooMany, rfl, XB.iv_TooMany_ValueError, _, rfl, iteF ?_⟩
    refine ⟨_, rfl, x, c_TooMany, _, _, _, rfl, hx, XB.xc_TooMany, rfl, XB.is_TooMany_NoWay, _, rfl, x, c_TooMany, _, _, _, rfl, hx, XB.xc_TooMany, rfl, XB.is_TooMany_NoRoom, _, rfl, x, c_TooMany, _, _, _, rfl, hx, XB.xc_TooMany, rfl, XB.is_TooMany_NotPlain, szl (by simp), fun p1 hp1 => ?_⟩
    have g1 := same_new hp1 (.lst [V.bl false, V.bl false, V.bl false])
    have e1 := upd_same (H := H) (a := p1) (o := .lst [V.bl false, V.bl false, V.bl false])
    have hx1 := g1 _ _ hx
    generalize upd H p1 (.lst [V.bl false, V.bl false, V.bl false]) = H1 at g1 e1 hx1 ⊢
    refine ⟨_, rfl, _, rfl, x, c_TooMany, _, _, _, rfl, hx1, XB.xc_TooMany, rfl, XB.is_TooMany_OtherSigns, _, rfl, x, c_TooMany, _, _, _, rfl, hx1, XB.xc_TooMany, rfl, XB.is_TooMany_TooMany, _, rfl, x, c_TooMany, _, _, _, rfl, hx1, XB.xc_TooMany, rfl, XB.is_TooMany_TwoWays, szl (by simp), fun p2 hp2 => ?_⟩
    have k2 := same_new hp2 (.lst [V.bl false, V.bl true, V.bl false])
    refine ⟨p1, p2, _, _, rfl, rfl, k2 _ _ e1, upd_same, szl (by simp), fun p3 hp3 => ?_⟩
    have k3 := same_new hp3 (.lst ([V.bl false, V.bl false, V.bl false] ++ [V.bl false, V.bl true, V.bl false]))
    have g3 := (g1.trans k2).trans k3
    have e3 := upd_same (H := upd H1 p2 (.lst [V.bl false, V.bl true, V.bl false])) (a := p3) (o := .lst ([V.bl false, V.bl false, V.bl false] ++ [V.bl false, V.bl true, V.bl false]))
    have hx3 := g3 _ _ hx
    generalize upd (upd H1 p2 (.lst [V.bl false, V.bl true, V.bl false])) p3 (.lst ([V.bl false, V.bl false, V.bl false] ++ [V.bl false, V.bl true, V.bl false])) = H3 at g3 e3 hx3 ⊢
    refine ⟨_, rfl, _, rfl, x, c_TooMany, _, _, _, rfl, hx3, XB.xc_TooMany, rfl, XB.is_TooMany_NeverPlain, _, rfl, x, c_TooMany, _, _, _, rfl, hx3, XB.xc_TooMany, rfl, XB.is_TooMany_NoText, szl (by simp), fun p4 hp4 => ?_⟩
    have k4 := same_new hp4 (.lst [V.bl false, V.bl false])
    refine ⟨p3, p4, _, _, rfl, rfl, k4 _ _ e3, upd_same, szl (by simp), fun p5 hp5 => ?_⟩
    have k5 := same_new hp5 (.lst ([V.bl false, V.bl false, V.bl false] ++ [V.bl false, V.bl true, V.bl false] ++ [V.bl false, V.bl false]))
    have g5 := (g3.trans k4).trans k5
    have e5 : upd (upd H3 p4 (.lst [V.bl false, V.bl false])) p5 (.lst ([V.bl false, V.bl false, V.bl false] ++ [V.bl false, V.bl true, V.bl false] ++ [V.bl false, V.bl false])) p5 = some (.lst (bsT.map V.bl)) := upd_same
    generalize upd (upd H3 p4 (.lst [V.bl false, V.bl false])) p5 (.lst ([V.bl false, V.bl false, V.bl false] ++ [V.bl false, V.bl true, V.bl false] ++ [V.bl false, V.bl false])) = H5 at g5 e5 ⊢
    refine ⟨_, rfl, p5, rfl, ⟨_, SqL.of e5⟩, ?_⟩
    refine comp_list (xs := bsT.map V.bl) (fun i ys τ H' => H5 = H' ∧ (∃ y, τ = [y]) ∧ i ≤ 8 ∧ ys = ((bsT.take i).filter id).map V.bl) ⟨rfl, ⟨_, rfl⟩, Nat.zero_le _, rfl⟩ (fun i ys τ H' z => z.1 ▸ SqL.of e5) ?_ ?_
    · rintro i y ys τ _ hy ⟨rfl, ⟨y0, rfl⟩, hi, rfl⟩
      rw [List.getElem?_map] at hy
      obtain ⟨b, hb, rfl⟩ := Option.map_eq_some_iff.mp hy
      have hil : i < 8 := (List.getElem?_eq_some_iff.mp hb).1
      have hyl : (((bsT.take i).filter id).map V.bl).length ≤ 999 := by
        rw [List.length_map]
        have := List.length_filter_le id (bsT.take i)
        rw [List.length_take] at this
        omega
      refine ⟨_, rfl, b, rfl, ?_⟩
      cases b with
      | true =>
        refine iteT ⟨_, rfl, szl' (by omega), rfl, ⟨_, rfl⟩, hil, ?_⟩
        rw [take_get hb, List.filter_append, List.map_append]; rfl
      | false =>
        refine iteF ⟨rfl, ⟨_, rfl⟩, hil, ?_⟩
        rw [take_get hb, List.filter_append, List.map_append]
        show _ = _ ++ []
        rw [List.append_nil]
    rintro ys τ _ ⟨rfl, _, _, rfl⟩ p6 hp6
    refine ⟨p6, _, rfl, .inl (SqL.of upd_same), rfl, ?_⟩
    exact q _ (g5.trans (same_new hp6 _))

theorem sc_law_few : FnScope ["_law_script", "_law_salt", "_law_rooms_here", "_law_signs", "_law_lists", "_law_k", "_law_cell", "_law_room", "_law_word", "_law_way", "_law_told"] ["_law_script", "_law_salt", "_law_rooms_here", "_law_signs"] (defScope s_law_few) := ⟨rfl, rfl, rfl, by decide +kernel, rfl, by decide +kernel, by decide +kernel⟩
theorem ok_law_few (B : Bi mg) {c_ScribeError c_NoWay c_NoRoom c_NotPlain c_OtherSigns c_TooMany c_TwoWays c_NeverPlain c_NoText : Addr} (XB : Xb K mg c_ScribeError c_NoWay c_NoRoom c_NotPlain c_OtherSigns c_TooMany c_TwoWays c_NeverPlain c_NoText) (C_law_mixed : Cal P w K mg base "_law_mixed" ["_law_cell", "_law_k"] 1 (spMixed)) {f : Addr} {fd : FuncData} (F : Fun K "_law_few" "_law_few" s_law_few f fd) : FnOk P w K mg base CX0 2 f fd ["_law_script", "_law_salt", "_law_rooms_here", "_law_signs"] (spFew K) := by
  refine F.ok sc_law_few (fun vs H Q E h => ?_) (fun cdv A outer s H vs Q E hr h => ?_)
  · obtain ⟨a, ns, salt, r, g, rfl, _⟩ := h; rfl
  obtain ⟨a, ns, salt, r, g, rfl, hS, h63, hr9, hr200, hg, q⟩ := h
  refine ⟨_, (pss_cons (ps_set (i := 4) sc_law_few.nd rfl (Or.inl rfl) (pe_lst (pa_cons (hs := starL) (pe_lst pa_nil) (pa_cons (hs := starL) (pe_lst pa_nil) (pa_cons (hs := starL) (pe_lst pa_nil) pa_nil)))))
      (pss_cons (ps_for PassesOwn.never (by rfl) (pi_range2 (by rfl) B.range (pa_cons pe_int (pa_cons (hs := starC) (pe_callB (call_min2 (by rfl)) (by rfl) B.min bt_min (pa_cons pe_int (pa_cons (hs := starC) (pe_callB (kLen (K := K)) (by rfl) B.len bt_len (pa_cons (pv 0) pa_nil)) pa_nil))) pa_nil))) (pg_name (i := 5) sc_law_few.nd rfl (Or.inl rfl)) (pss_cons (ps_set (i := 6) sc_law_few.nd rfl (Or.inl rfl) (pe_fn C_law_mixed hr (by decide : 1 ≤ 1) (by rfl) (pa_cons (hs := starS) (pe_ix (kIx (K := K) rIxL ix_list) (pv 0) (pv 5) (by intro _ _; rfl)) (pa_cons (hs := starB) (pe_op op_add (pv 5) (pv 1)) pa_nil))))
      (pss_cons (ps_set (i := 7) sc_law_few.nd rfl (Or.inl rfl) (pe_abs (pe_op op_mod (pe_op op_fdiv (pv 6) pe_int) (pe_callB (call_max2 (by rfl)) (by rfl) B.max bt_max (pa_cons (pv 2) (pa_cons pe_int pa_nil))))))
      (pss_cons (ps_set (i := 8) sc_law_few.nd rfl (Or.inl rfl) (pe_slice sl_str pe_str po_none (po_some (pe_op op_mod (pe_op op_fdiv (pv 6) pe_int) pe_int))))
      (pss_cons (ps_set (i := 9) sc_law_few.nd rfl (Or.inl rfl) (pe_ix (kIx (K := K) rPick ix_pick) (pe_lst (pa_cons pe_int (pa_cons pe_int (pa_cons pe_int (pa_cons pe_int (pa_cons pe_int (pa_cons pe_int (pa_cons pe_int (pa_cons pe_int pa_nil))))))))) (pe_op op_mod (pv 6) pe_int) (by intro _ _; rfl)))
      (pss_cons (ps_set (i := 10) sc_law_few.nd rfl (Or.inl rfl) (pe_tup (pa_cons (pv 7) (pa_cons (pv 8) pa_nil))))
      (pss_mid (ps_if (pt_cmpR op_eq (pv 9) pe_int (nomark _)) (pss_one (ps_set (i := 10) sc_law_few.nd rfl (Or.inl rfl) (pe_tup (pa_cons (pv 7) (pa_cons (hs := starS) (pe_ix ix_str (pv 3) (pe_op op_mod (pe_op op_fdiv (pv 6) pe_int) (pe_callB call_len_str (by rfl) B.len bt_len (pa_cons (pv 3) pa_nil))) (by intro _ _; rfl)) (pa_cons (pv 8) (pa_cons (hs := starB) (pe_op op_mod (pe_op op_fdiv (pv 6) pe_int) (pe_callB (call_max2 (by rfl)) (by rfl) B.max bt_max (pa_cons (pv 2) (pa_cons pe_int pa_nil)))) pa_nil))))))) pss_nil)
      (pss_one (ps_if (PW.pt (pw_and (pt_cmpR op_gt (pv 2) pe_int (nomark _)) (pw_and1 (pt_cmpR (kOp (K := K) (rInD · true) (op_notInD hr.units)) (pv 10) (pe_ix (kIx (K := K) rIxL ix_list) (pv 4) (pv 9) (by intro _ _; rfl)) rfl)))) (pss_one (ps_expr (kPE (K := K) (fun k => tBM k _ _ _ _) (pe_bm PySem.F.plainAttrs_list PySem.F.slot_list_append PySem.F.type_list_append mt_append (pe_ix (kIx (K := K) rIxL ix_list) (pv 4) (pv 9) (by intro _ _; rfl)) (pa_cons (pv 10) pa_nil))))) pss_nil)))))))))
      (pss_one (ps_ret (pe_tup (pa_cons (pv 3) (pa_cons (pv 2) (pa_cons (hs := starS) (pe_ix (kIx (K := K) rIxL ix_list) (pv 4) pe_int (by intro _ _; rfl)) (pa_cons (hs := starS) (pe_ix (kIx (K := K) rIxL ix_list) (pv 4) pe_int (by intro _ _; rfl)) (pa_cons (hs := starS) (pe_ix (kIx (K := K) rIxL ix_list) (pv 4) pe_int (by intro _ _; rfl)) pa_nil)))))))))), ?_⟩
  obtain ⟨hg1, hg2, hg3, hg4⟩ := hg
  have g1 : Same H H := Same.refl H
  refine ⟨szl (by simp), fun pb hpb => ?_⟩
  refine ⟨szl (by simp), fun ps hps => ?_⟩
  refine ⟨szl (by simp), fun pe hpe => ?_⟩
  refine ⟨szl (by simp), fun pl hpl => ?_⟩
  have hps' : H ps = none := (same_new hpb _).free hps
  have hpe' : upd H pb (.lst []) pe = none := (same_new hps _).free hpe
  have hpl' : upd (upd H pb (.lst [])) ps (.lst []) pl = none := (same_new hpe _).free hpl
  have hpl'' : upd H pb (.lst []) pl = none := (same_new hps _).free hpl'
  have AP : Apart H pb ps pe := ⟨g1.free hpb, g1.free hps', g1.free ((same_new hpb _).free hpe'), ne_of_none upd_same hps, ne_of_none upd_same hpe', ne_of_none upd_same hpe⟩
  have lb : pl ≠ pb := (ne_of_none upd_same hpl'').symm
  have lS : pl ≠ ps := (ne_of_none upd_same hpl').symm
  have le : pl ≠ pe := (ne_of_none upd_same hpl).symm
  have HI0 : HI K H pb ps pe false g r 0 (upd (upd (upd (upd H pb (.lst [])) ps (.lst [])) pe (.lst [])) pl (.lst [.ref pb, .ref ps, .ref pe])) :=
    ⟨[], [], [], [], [], [], (((g1.trans (same_new hpb _)).trans (same_new hps _)).trans (same_new hpe _)).trans (same_new hpl _), by rw [upd_ne lb.symm, upd_ne AP.be, upd_ne AP.bs]; exact upd_same, by rw [upd_ne lS.symm, upd_ne AP.se]; exact upd_same, by rw [upd_ne le.symm]; exact upd_same, .nil, .nil, .nil,
      ⟨Nat.zero_le _, Nat.zero_le _, Nat.zero_le _, by simp, by simp, by simp, by simp, by simp, by simp, fun _ => Nat.zero_le _, fun _ => by simp, fun _ => by simp⟩⟩
  have el0 := upd_same (H := upd (upd (upd H pb (.lst [])) ps (.lst [])) pe (.lst [])) (a := pl) (o := .lst [.ref pb, .ref ps, .ref pe])
  generalize upd (upd (upd (upd H pb (.lst [])) ps (.lst [])) pe (.lst [])) pl (.lst [.ref pb, .ref ps, .ref pe]) = H3 at HI0 el0 ⊢
  have hS3 : SqL K H3 a (ns.map V.int) := by obtain ⟨_, _, _, _, _, _, z, _⟩ := HI0; exact z.seq hS
  refine ⟨_, rfl, a, _, rfl, .inl hS3, _, _, rfl, _, _, rfl, ⟨by decide, by decide, ?_, ?_⟩, ?_⟩
  · rw [List.length_map]
    show -(2 ^ 62 : Int) ≤ if (ns.length : Int) < 20 then (ns.length : Int) else 20
    split <;> omega
  · rw [List.length_map]
    show (if (ns.length : Int) < 20 then (ns.length : Int) else 20) < 2 ^ 62
    split <;> omega
  rw [List.length_map]
  have hturns : ((if (ns.length : Int) < 20 then (ns.length : Int) else 20) - 1).toNat ≤ 62 ∧ ((if (ns.length : Int) < 20 then (ns.length : Int) else 20) - 1).toNat ≤ ns.length - 1 := by split <;> omega
  have hmx : 0 < (if (1 : Int) > r then 1 else r) ∧ (0 < r → (if (1 : Int) > r then 1 else r) = r) := by split <;> omega
  have hgl : (0 : Int) < g.length ∧ (g.length : Int) < 1073741824 := by omega
  refine for_range (fun i σ H' => HI K H pb ps pe false g r i H' ∧ H' pl = some (.lst [.ref pb, .ref ps, .ref pe]) ∧ ∃ x4 x5 x6 x7 x8 x9, σ = [some (.ref a), some (.int salt), some (.int r), some (.str g), some (.ref pl), x4, x5, x6, x7, x8, x9]) ⟨HI0, el0, _, _, _, _, _, _, rfl⟩ ?_ ?_
  · rintro i σ H4 hi ⟨hI, el, x4, x5, x6, x7, x8, x9, rfl⟩
    have hi62 : i < 62 := Nat.lt_of_lt_of_le hi hturns.1
    have hin : 1 + i < ns.length := by have := Nat.lt_of_lt_of_le hi hturns.2; omega
    have hS4 : SqL K H4 a (ns.map V.int) := by obtain ⟨_, _, _, _, _, _, z, _⟩ := hI; exact z.seq hS
    have hat0 : atI (ns.map V.int) (1 + (i : Int)) = some (.int ns[1 + i]) := atI_nat (j := 1 + i) (by rw [List.getElem?_map, List.getElem?_eq_getElem hin]; rfl)
    refine ⟨_, rfl, _, rfl, a, _, _, _, rfl, rfl, hS4, hat0, _, rfl, _, rfl, _, _, rfl, rfl, _, _, rfl, fun c c0 c1 => ?_⟩
    refine ⟨fun v H' => H4 = H' ∧ ∃ n : Int, v = .int n ∧ 0 ≤ n ∧ (0 < r → n < r), ⟨_, rfl, _, _, rfl, rfl, ⟨by decide, by decide⟩, _, rfl, _, _, rfl, _, _, rfl, rfl, hmx.1, rfl, _, rfl, Int.emod_nonneg _ (by omega), (fun h => by have := Int.emod_lt_of_pos (c / 8) hmx.1; rw [hmx.2 h] at this ⊢; exact this)⟩, ?_⟩
    rintro _ _ ⟨rfl, ro, rfl, ro0, ro1⟩
    refine ⟨_, rfl, _, _, rfl, rfl, ⟨by decide, by decide⟩, _, _, rfl, rfl, pz, _, rfl, _, rfl, szl (by rw [ab_len]; decide), ?_⟩
    have hwd0 := wd_ab (c / 4000 % 3)
    generalize Txt.slice "ab" none (some (c / 4000 % 3)) = wd at hwd0 ⊢
    refine ⟨szl (by simp), fun p2 hp2 => ⟨_, rfl, _, _, rfl, rfl, pz, p2, _, _, rfl, rfl, SqL.of upd_same, by omega, (by show c % 8 < 8; omega), isNum 0 2, ?_, ?_⟩⟩
    · intro v hv
      simp only [List.mem_cons, List.not_mem_nil, or_false] at hv
      rcases hv with rfl | rfl | rfl | rfl | rfl | rfl | rfl | rfl <;> exact ⟨_, rfl, by decide, by decide⟩
    rintro _ ⟨way, rfl, hw0, hw2⟩
    have gp := same_new hp2 (.lst [V.int 0, V.int 1, V.int 1, V.int 1, V.int 2, V.int 2, V.int 1, V.int 0])
    have hI := hI.mono gp (Nat.le_refl _)
    have el := gp _ _ el
    generalize upd H4 p2 (.lst [V.int 0, V.int 1, V.int 1, V.int 1, V.int 2, V.int 2, V.int 1, V.int 0]) = H5 at hI el ⊢
    refine ⟨_, rfl, _, rfl, (by show 2 ≤ sizeLine; decide), fun t ht => ?_⟩
    have gt := same_new ht (.tup [V.int ro, V.str wd])
    have et := upd_same (H := H5) (a := t) (o := .tup [V.int ro, V.str wd])
    have hI := hI.mono gt (Nat.le_refl _)
    have el := gt _ _ el
    dsimp only at ht ⊢
    generalize upd H5 t (.tup [V.int ro, V.str wd]) = H7 at hI el et ⊢
    refine ⟨fun σ' H' => ∃ t', σ' = [some (.ref a), some (.int salt), some (.int r), some (.str g), some (.ref pl), some (.int (1 + (i : Int))), some (.int c), some (.int ro), some (.str wd), some (.int way), some (.ref t')] ∧ HI K H pb ps pe false g r i H' ∧ H' pl = some (.lst [.ref pb, .ref ps, .ref pe]) ∧
        ((¬ way = 1 ∧ ∃ wd, Wd wd ∧ SqT K H' t' [.int ro, .str wd]) ∨ (way = 1 ∧ ∃ sg wd to, sg ∈ cl g ∧ Wd wd ∧ 0 ≤ to ∧ (0 < r → to < r) ∧ SqT K H' t' [.int ro, .str ⟨#[sg]⟩, .str wd, .int to])), ?_, ?_⟩
    · refine ⟨_, rfl, rfl, _, rfl, iteDd (fun cc => ?_) (fun cc => ⟨t, rfl, hI, el, .inl ⟨fun z => cc (by rw [z]), wd, hwd0, SqT.of et⟩⟩)⟩
      have cc : way = 1 := by injection cc
      obtain ⟨sg, hc, hm⟩ := at_mem (xs := cl g) (i := c / 16000 % (g.length : Int)) (Int.emod_nonneg _ (by omega)) (by rw [cl_length]; exact Int.emod_lt_of_pos _ hgl.1)
      have to0 : 0 ≤ c / 32000 % (if (1 : Int) > r then 1 else r) := Int.emod_nonneg _ (by omega)
      have to1 : 0 < r → c / 32000 % (if (1 : Int) > r then 1 else r) < r := fun h => by have := Int.emod_lt_of_pos (c / 32000) hmx.1; rw [hmx.2 h] at this ⊢; exact this
      refine ⟨_, rfl, _, rfl, _, rfl, _, _, rfl, rfl, ⟨by decide, by decide⟩, _, rfl, g, rfl, szl (by omega), _, _, rfl, rfl, hgl.1, g, _, sg, rfl, rfl, szl (by omega), hc, _, rfl, _, rfl, _, _, rfl, rfl, ⟨by decide, by decide⟩, _, rfl, _, _, rfl, _, _, rfl, rfl, hmx.1, (by show 4 ≤ sizeLine; decide), fun t2 ht2 => ?_⟩
      have gt2 := same_new ht2 (.tup [V.int ro, V.str ⟨#[sg]⟩, V.str wd, V.int (c / 32000 % (if (1 : Int) > r then 1 else r))])
      exact ⟨t2, rfl, hI.mono gt2 (Nat.le_refl _), gt2 _ _ el, .inr ⟨cc, sg, wd, _, hm, hwd0, to0, to1, SqT.of upd_same⟩⟩
    rintro _ H8 ⟨t', rfl, hI, el, hcase⟩
    obtain ⟨B, S, E', xb, xs, xe, i1, i2, i3, i4, i5, i6, i7, i8⟩ := hI
    have stay : HI K H pb ps pe false g r (i + 1) H8 := HI.mono ⟨B, S, E', xb, xs, xe, i1, i2, i3, i4, i5, i6, i7, i8⟩ (Same.refl _) (Nat.le_succ _)
    have hw : way = 0 ∨ way = 1 ∨ way = 2 := by omega
    rcases hw with rfl | rfl | rfl
    · obtain ⟨_, wd, hwd, hT⟩ : ¬ (0 : Int) = 1 ∧ ∃ wd, Wd wd ∧ SqT K H8 t' [.int ro, .str wd] := by
        rcases hcase with z | z
        · exact z
        · exact absurd z.1 (by decide)
      have hat : atI [V.ref pb, V.ref ps, V.ref pe] 0 = some (.ref pb) := rfl
      refine ⟨_, rfl, _, _, rfl, rfl, _, rfl, iteDd (fun hr0 => ⟨_, rfl, _, rfl, _, rfl, _, _, _, _, rfl, rfl, SqL.of el, hat, dMk (ro, wd), pb, xb, B.map dMk, MkV.rep ⟨t', rfl, hT⟩, rfl, SqL.of i2, notIn_mk (m := (ro, wd)) i5, Nat.le_trans (deeps_map dMk 1 deep_dMk B) (by decide), _, rfl, iteB (fun z => ?_) (fun _ => ⟨stay, el, _, _, _, _, _, _, rfl⟩)⟩) (fun _ => ⟨stay, el, _, _, _, _, _, _, rfl⟩)⟩
      have z' : (!((B.map dMk).any fun e => eqD e (dMk (ro, wd)))) = true := z
      rw [any_mem dMk eqD_dMk] at z'
      have hlx : xb.length < sizeLine := by have := i5.length; have : B.length ≤ i := i8.lb; exact szl' (by omega)
      refine ⟨_, rfl, _, rfl, _, _, _, _, rfl, rfl, SqL.of el, hat, .inl ⟨rfl, _, SqL.of i2⟩, _, rfl, pb, xb, .ref t', rfl, rfl, i2, hlx, ?_, (upd_ne lb).trans el, _, _, _, _, _, _, rfl⟩
      exact HI.addBegin AP i1 i2 i3 i4 i5 i6 i7 (i8.begin ro0 (ro1 hr0) hwd (by simpa using z') (fun h => nomatch h)) ⟨t', rfl, hT⟩
    · obtain ⟨_, sg, wd, to, hsg, hwd, to0, to1, hT⟩ : (1 : Int) = 1 ∧ ∃ sg wd to, sg ∈ cl g ∧ Wd wd ∧ 0 ≤ to ∧ (0 < r → to < r) ∧ SqT K H8 t' [.int ro, .str ⟨#[sg]⟩, .str wd, .int to] := by
        rcases hcase with z | z
        · exact absurd rfl z.1
        · exact z
      have hat : atI [V.ref pb, V.ref ps, V.ref pe] 1 = some (.ref ps) := rfl
      refine ⟨_, rfl, _, _, rfl, rfl, _, rfl, iteDd (fun hr0 => ⟨_, rfl, _, rfl, _, rfl, _, _, _, _, rfl, rfl, SqL.of el, hat, dSt (ro, ⟨#[sg]⟩, wd, to), ps, xs, S.map dSt, StV.rep ⟨t', rfl, hT⟩, rfl, SqL.of i3, reps_st i6, Nat.le_trans (deeps_map dSt 1 deep_dSt S) (by decide), _, rfl, iteB (fun z => ?_) (fun _ => ⟨stay, el, _, _, _, _, _, _, rfl⟩)⟩) (fun _ => ⟨stay, el, _, _, _, _, _, _, rfl⟩)⟩
      have z' : (!((S.map dSt).any fun e => eqD e (dSt (ro, ⟨#[sg]⟩, wd, to)))) = true := z
      rw [any_mem dSt eqD_dSt] at z'
      have hlx : xs.length < sizeLine := by have := i6.length; have : S.length ≤ i := i8.ls; exact szl' (by omega)
      refine ⟨_, rfl, _, rfl, _, _, _, _, rfl, rfl, SqL.of el, hat, .inl ⟨rfl, _, SqL.of i3⟩, _, rfl, ps, xs, .ref t', rfl, rfl, i3, hlx, ?_, (upd_ne lS).trans el, _, _, _, _, _, _, rfl⟩
      exact HI.addStep AP i1 i2 i3 i4 i5 i6 i7 (i8.step ro0 (ro1 hr0) ⟨sg, hsg, rfl⟩ hwd to0 (to1 hr0) (by simpa using z') (fun h => nomatch h)) ⟨t', rfl, hT⟩
    · obtain ⟨_, wd, hwd, hT⟩ : ¬ (2 : Int) = 1 ∧ ∃ wd, Wd wd ∧ SqT K H8 t' [.int ro, .str wd] := by
        rcases hcase with z | z
        · exact z
        · exact absurd z.1 (by decide)
      have hat : atI [V.ref pb, V.ref ps, V.ref pe] 2 = some (.ref pe) := rfl
      refine ⟨_, rfl, _, _, rfl, rfl, _, rfl, iteDd (fun hr0 => ⟨_, rfl, _, rfl, _, rfl, _, _, _, _, rfl, rfl, SqL.of el, hat, dMk (ro, wd), pe, xe, E'.map dMk, MkV.rep ⟨t', rfl, hT⟩, rfl, SqL.of i4, notIn_mk (m := (ro, wd)) i7, Nat.le_trans (deeps_map dMk 1 deep_dMk E') (by decide), _, rfl, iteB (fun z => ?_) (fun _ => ⟨stay, el, _, _, _, _, _, _, rfl⟩)⟩) (fun _ => ⟨stay, el, _, _, _, _, _, _, rfl⟩)⟩
      have z' : (!((E'.map dMk).any fun e => eqD e (dMk (ro, wd)))) = true := z
      rw [any_mem dMk eqD_dMk] at z'
      have hlx : xe.length < sizeLine := by have := i7.length; have : E'.length ≤ i := i8.le; exact szl' (by omega)
      refine ⟨_, rfl, _, rfl, _, _, _, _, rfl, rfl, SqL.of el, hat, .inl ⟨rfl, _, SqL.of i4⟩, _, rfl, pe, xe, .ref t', rfl, rfl, i4, hlx, ?_, (upd_ne le).trans el, _, _, _, _, _, _, rfl⟩
      exact HI.addEnd AP i1 i2 i3 i4 i5 i6 i7 (i8.end_ ro0 (ro1 hr0) hwd (by simpa using z') (fun h => nomatch h)) ⟨t', rfl, hT⟩
  
  
  rintro σ H4 ⟨hI, el, x4, x5, x6, x7, x8, x9, rfl⟩
  have hI : HI K H pb ps pe false g r 62 H4 := hI.mono (Same.refl _) hturns.1
  obtain ⟨B, S, E', xb, xs, xe, i1, i2, i3, i4, i5, i6, i7, i8⟩ := hI
  refine ⟨_, rfl, _, rfl, _, rfl, _, _, _, _, rfl, rfl, SqL.of el, rfl, _, rfl, _, _, _, _, rfl, rfl, SqL.of el, rfl, _, rfl, _, _, _, _, rfl, rfl, SqL.of el, rfl, (by show 5 ≤ sizeLine; decide), fun v hv => ?_⟩
  have gv := same_new hv (.tup [V.str g, V.int r, V.ref pb, V.ref ps, V.ref pe])
  exact q _ _ ⟨g, r, B, S, E'⟩ pb ps pe (i1.trans gv) ⟨v, xb, xs, xe, rfl, SqT.of upd_same, SqL.of (gv _ _ i2), SqL.of (gv _ _ i3), SqL.of (gv _ _ i4), paired_mono (fun _ _ => MkV.mono (Same.grow gv)) i5, paired_mono (fun _ _ => StV.mono (Same.grow gv)) i6, paired_mono (fun _ _ => MkV.mono (Same.grow gv)) i7⟩ i8 rfl rfl

theorem sc_law_rooms : FnScope ["_law_number", "_law_edges", "_law_first"] ["_law_number"] (defScope s_law_rooms) := ⟨rfl, rfl, rfl, by decide +kernel, rfl, by decide +kernel, by decide +kernel⟩
theorem ok_law_rooms (B : Bi mg) {c_ScribeError c_NoWay c_NoRoom c_NotPlain c_OtherSigns c_TooMany c_TwoWays c_NeverPlain c_NoText : Addr} (XB : Xb K mg c_ScribeError c_NoWay c_NoRoom c_NotPlain c_OtherSigns c_TooMany c_TwoWays c_NeverPlain c_NoText)  {f : Addr} {fd : FuncData} (F : Fun K "_law_rooms" "_law_rooms" s_law_rooms f fd) : FnOk P w K mg base CX0 1 f fd ["_law_number"] (spRooms K) := by
  refine F.ok sc_law_rooms (fun vs H Q E h => ?_) (fun cdv A outer s H vs Q E hr h => ?_)
  · obtain ⟨n, rfl, _⟩ := h; rfl
  obtain ⟨n, rfl, q⟩ := h
  refine ⟨_, (pss_cons (ps_if (pt_cmpR op_eq (pe_op op_mod (pv 0) pe_int) pe_int (nomark _)) (pss_one (ps_ret (pe_lst (pa_cons (hs := starB) (pe_op op_mod (pe_op op_fdiv (pv 0) pe_int) pe_int) (pa_cons (hs := starB) (pe_op op_mod (pe_op op_fdiv (pv 0) pe_int) pe_int) pa_nil))))) pss_nil)
      (pss_cons (ps_if (pt_cmpR op_eq (pe_op op_mod (pv 0) pe_int) pe_int (nomark _)) (pss_cons (ps_set (i := 1) sc_law_rooms.nd rfl (Or.inl rfl) th_edges)
      (pss_one (ps_ret (pe_callTy (kCall (K := K) rLo call_list_of) (by rfl) B.list bt_list (pa_cons (hs := starS) (pe_ix (kIx (K := K) rIxL ix_list) (pv 1) (pe_op op_mod (pe_op op_fdiv (pv 0) pe_int) pe_int) (by intro _ _; rfl)) pa_nil))))) pss_nil)
      (pss_cons (ps_if (pt_cmpR op_eq (pe_op op_mod (pv 0) pe_int) pe_int (nomark _)) (pss_cons (ps_set (i := 2) sc_law_rooms.nd rfl (Or.inl rfl) (pe_op op_mod (pe_op op_fdiv (pv 0) pe_int) pe_int))
      (pss_one (ps_ret (pe_lst (pa_cons (pv 2) (pa_cons (hs := starB) (pe_op op_sub (pe_op op_add pe_int (pe_op op_mod (pe_op op_fdiv (pv 0) pe_int) pe_int)) (pv 2)) pa_nil)))))) pss_nil)
      (pss_one (ps_ret (pe_lst (pa_cons (hs := starB) (pe_op op_mod (pe_op op_fdiv (pv 0) pe_int) pe_int) (pa_cons (hs := starB) (pe_op op_mod (pe_op op_fdiv (pv 0) pe_int) pe_int) pa_nil)))))))), ?_⟩
  refine ⟨_, rfl, _, _, rfl, rfl, pz, rfl, _, rfl, iteDd (fun c => ?_) (fun c => ?_)⟩
  · refine ⟨_, rfl, _, _, rfl, rfl, ⟨by decide, by decide⟩, _, _, rfl, rfl, pz, _, rfl, _, _, rfl, rfl, ⟨by decide, by decide⟩, _, _, rfl, rfl, pz, szl (by simp), fun l hl => ?_⟩
    exact q l _ _ _ (same_new hl _) upd_same (by omega) (by omega) (by omega) (by omega)
  refine ⟨_, rfl, _, _, rfl, rfl, pz, rfl, _, rfl, iteDd (fun c => ?_) (fun c => ?_)⟩
  · refine ⟨(by show 2 ≤ sizeLine; decide), fun b0 hb0 => ?_⟩
    have G0 := same_new hb0 (.tup [V.int 10, V.int 20])
    have e0 := upd_same (H := H) (a := b0) (o := (.tup [V.int 10, V.int 20]))
    generalize upd H b0 (.tup [V.int 10, V.int 20]) = J0 at G0 e0 ⊢
    refine ⟨(by show 2 ≤ sizeLine; decide), fun b1 hb1 => ?_⟩
    have G1 := same_new hb1 (.tup [V.int 67, V.int 3])
    have e1 := upd_same (H := J0) (a := b1) (o := (.tup [V.int 67, V.int 3]))
    generalize upd J0 b1 (.tup [V.int 67, V.int 3]) = J1 at G1 e1 ⊢
    refine ⟨(by show 2 ≤ sizeLine; decide), fun b2 hb2 => ?_⟩
    have G2 := same_new hb2 (.tup [V.int 200, V.int 1])
    have e2 := upd_same (H := J1) (a := b2) (o := (.tup [V.int 200, V.int 1]))
    generalize upd J1 b2 (.tup [V.int 200, V.int 1]) = J2 at G2 e2 ⊢
    refine ⟨(by show 2 ≤ sizeLine; decide), fun b3 hb3 => ?_⟩
    have G3 := same_new hb3 (.tup [V.int 101, V.int 2])
    have e3 := upd_same (H := J2) (a := b3) (o := (.tup [V.int 101, V.int 2]))
    generalize upd J2 b3 (.tup [V.int 101, V.int 2]) = J3 at G3 e3 ⊢
    refine ⟨(by show 2 ≤ sizeLine; decide), fun b4 hb4 => ?_⟩
    have G4 := same_new hb4 (.tup [V.int 14, V.int 14])
    have e4 := upd_same (H := J3) (a := b4) (o := (.tup [V.int 14, V.int 14]))
    generalize upd J3 b4 (.tup [V.int 14, V.int 14]) = J4 at G4 e4 ⊢
    refine ⟨(by show 2 ≤ sizeLine; decide), fun b5 hb5 => ?_⟩
    have G5 := same_new hb5 (.tup [V.int 1, V.int 200])
    have e5 := upd_same (H := J4) (a := b5) (o := (.tup [V.int 1, V.int 200]))
    generalize upd J4 b5 (.tup [V.int 1, V.int 200]) = J5 at G5 e5 ⊢
    refine ⟨(by show 2 ≤ sizeLine; decide), fun b6 hb6 => ?_⟩
    have G6 := same_new hb6 (.tup [V.int 8, V.int 25])
    have e6 := upd_same (H := J5) (a := b6) (o := (.tup [V.int 8, V.int 25]))
    generalize upd J5 b6 (.tup [V.int 8, V.int 25]) = J6 at G6 e6 ⊢
    refine ⟨(by show 2 ≤ sizeLine; decide), fun b7 hb7 => ?_⟩
    have G7 := same_new hb7 (.tup [V.int 29, V.int 7])
    have e7 := upd_same (H := J6) (a := b7) (o := (.tup [V.int 29, V.int 7]))
    generalize upd J6 b7 (.tup [V.int 29, V.int 7]) = J7 at G7 e7 ⊢
    refine ⟨szl (by simp), fun l hl => ?_⟩
    have Gl := same_new hl (.lst [V.ref b0, V.ref b1, V.ref b2, V.ref b3, V.ref b4, V.ref b5, V.ref b6, V.ref b7])
    have el := upd_same (H := J7) (a := l) (o := .lst [V.ref b0, V.ref b1, V.ref b2, V.ref b3, V.ref b4, V.ref b5, V.ref b6, V.ref b7])
    have e0 := Gl _ _ (G7 _ _ ( G6 _ _ ( G5 _ _ ( G4 _ _ ( G3 _ _ ( G2 _ _ ( G1 _ _ (e0))))))))
    have e1 := Gl _ _ (G7 _ _ ( G6 _ _ ( G5 _ _ ( G4 _ _ ( G3 _ _ ( G2 _ _ (e1)))))))
    have e2 := Gl _ _ (G7 _ _ ( G6 _ _ ( G5 _ _ ( G4 _ _ ( G3 _ _ (e2))))))
    have e3 := Gl _ _ (G7 _ _ ( G6 _ _ ( G5 _ _ ( G4 _ _ (e3)))))
    have e4 := Gl _ _ (G7 _ _ ( G6 _ _ ( G5 _ _ (e4))))
    have e5 := Gl _ _ (G7 _ _ ( G6 _ _ (e5)))
    have e6 := Gl _ _ (G7 _ _ e6)
    have e7 := Gl _ _ e7
    have GG : Same H (upd J7 l (.lst [V.ref b0, V.ref b1, V.ref b2, V.ref b3, V.ref b4, V.ref b5, V.ref b6, V.ref b7])) := (((((((G0.trans G1).trans G2).trans G3).trans G4).trans G5).trans G6).trans G7).trans Gl
    generalize upd J7 l (.lst [V.ref b0, V.ref b1, V.ref b2, V.ref b3, V.ref b4, V.ref b5, V.ref b6, V.ref b7]) = J at Gl el e0 e1 e2 e3 e4 e5 e6 e7 GG ⊢
    obtain ⟨v, hv, hm⟩ := at_mem (xs := [V.ref b0, V.ref b1, V.ref b2, V.ref b3, V.ref b4, V.ref b5, V.ref b6, V.ref b7]) (i := n / 4 % 8) (by omega) (by show n / 4 % 8 < 8; omega)
    have hp : pairOk J v := by
      simp only [List.mem_cons, List.not_mem_nil, or_false] at hm
      rcases hm with rfl | rfl | rfl | rfl | rfl | rfl | rfl | rfl
      · exact ⟨_, _, _, rfl, e0, by decide, by decide, by decide, by decide⟩
      · exact ⟨_, _, _, rfl, e1, by decide, by decide, by decide, by decide⟩
      · exact ⟨_, _, _, rfl, e2, by decide, by decide, by decide, by decide⟩
      · exact ⟨_, _, _, rfl, e3, by decide, by decide, by decide, by decide⟩
      · exact ⟨_, _, _, rfl, e4, by decide, by decide, by decide, by decide⟩
      · exact ⟨_, _, _, rfl, e5, by decide, by decide, by decide, by decide⟩
      · exact ⟨_, _, _, rfl, e6, by decide, by decide, by decide, by decide⟩
      · exact ⟨_, _, _, rfl, e7, by decide, by decide, by decide, by decide⟩
    obtain ⟨b, x, y, rfl, hb, x0, x1, y0, y1⟩ := hp
    refine ⟨_, rfl, _, rfl, _, _, rfl, rfl, ⟨by decide, by decide⟩, _, _, rfl, rfl, pz, l, _, _, _, rfl, rfl, SqL.of el, hv, b, _, rfl, .inr (SqT.of hb), fun l2 hl2 => ?_⟩
    exact q l2 _ x y (GG.trans (same_new hl2 _)) upd_same x0 x1 y0 (by omega)
  refine ⟨_, rfl, _, _, rfl, rfl, pz, rfl, _, rfl, iteDd (fun c => ?_) (fun c => ?_)⟩
  · refine ⟨_, rfl, _, _, rfl, rfl, ⟨by decide, by decide⟩, _, _, rfl, rfl, pz, ?_⟩
    refine ⟨_, rfl, _, rfl, _, _, rfl, rfl, ⟨by decide, by decide⟩, _, _, rfl, rfl, pz, _, _, rfl, rfl, _, rfl, _, _, rfl, rfl, szl (by simp), fun l hl => ?_⟩
    exact q l _ _ _ (same_new hl _) upd_same (by omega) (by omega) (by omega) (by omega)
  refine ⟨_, rfl, _, _, rfl, rfl, ⟨by decide, by decide⟩, _, _, rfl, rfl, pz, _, rfl, _, _, rfl, rfl, ⟨by decide, by decide⟩, _, _, rfl, rfl, pz, szl (by simp), fun l hl => ?_⟩
  exact q l _ _ _ (same_new hl _) upd_same (by omega) (by omega) (by omega) (by omega)

theorem sc_law_refusal : FnScope ["_law_word", "_law_one", "_law_other", "_law_found", "_law_error", "_law_told", "e"] ["_law_word", "_law_one", "_law_other"] (defScope s_law_refusal) := ⟨rfl, rfl, rfl, by decide +kernel, rfl, by decide +kernel, by decide +kernel⟩
theorem ok_law_refusal (B : Bi mg) {c_ScribeError c_NoWay c_NoRoom c_NotPlain c_OtherSigns c_TooMany c_TwoWays c_NeverPlain c_NoText : Addr} (XB : Xb K mg c_ScribeError c_NoWay c_NoRoom c_NotPlain c_OtherSigns c_TooMany c_TwoWays c_NeverPlain c_NoText) (C_either_of : Cal1 P w K mg base "either_of" ["one", "other"] 2 (spEither K c_OtherSigns c_TooMany)) (C_kept_to : Cal1 P w K mg base "kept_to" ["scribe", "other"] 4 (spKept K c_OtherSigns c_TooMany)) (C_law_alone : Cal P w K mg base "_law_alone" ["_law_error"] 1 (spAlone2 K c_OtherSigns c_TooMany)) {f : Addr} {fd : FuncData} (F : Fun K "_law_refusal" "_law_refusal" s_law_refusal f fd) : FnOk P w K mg base CX0 5 f fd ["_law_word", "_law_one", "_law_other"] (spRefusal K) := by
  refine F.ok sc_law_refusal (fun vs H Q E h => ?_) (fun cdv A outer s H vs Q E hr h => ?_)
  · obtain ⟨w, v, s, pb, ps, pe, v2, u, qb, qs, qe, rfl, _⟩ := h; rfl
  obtain ⟨w, v, s, pb, ps, pe, v2, u, qb, qs, qe, rfl, hV, hU, ls_, lu, hn, hm, q⟩ := h
  refine ⟨_, (pss_cons (ps_set (i := 3) sc_law_refusal.nd rfl (Or.inl rfl) pe_non)
      (pss_cons (ps_set (i := 4) sc_law_refusal.nd rfl (Or.inl rfl) pe_non)
      (pss_cons (ps_set (i := 5) sc_law_refusal.nd rfl (Or.inl rfl) pe_str)
      (pss_cons (ps_tryC2 (iy := 3) (iq := 5) (iz := 4) (ie := 6) rfl hr (pt_cmpR op_eq (pv 0) pe_int (nomark _)) C_either_of (by decide : 2 ≤ 4) (by rfl) (pa_cons (pv 1) (pa_cons (pv 2) pa_nil)) C_kept_to (by decide : 4 ≤ 4) (by rfl) (pa_cons (pv 1) (pa_cons (pv 2) pa_nil)) XB.cl_OtherSigns (by rfl) XB.cl_TooMany (by rfl) (fun _ => pe_str) (fun _ => pe_str) rfl rfl rfl sc_law_refusal.nd rfl rfl rfl rfl (Or.inl rfl) (Or.inl rfl) (Or.inl rfl) rfl (by decide) (by decide))
      (pss_cons (ps_if (PW.pt (pw_or (PW.pt (pw_and (pt_cmpR op_isN (pv 4) pe_non (nomark _)) (pw_and1 (pt_not (pt_val (pe_callB (kCall (K := K) rIsD call_isinstD) (by rfl) B.isinstance bt_isinstance (pa_cons (pv 3) (pa_cons (pe_ty (by rfl) B.tuple bt_tuple) pa_nil)))))))) (pw_or1 (PW.pt (pw_and (pt_cmpR op_notN (pv 4) pe_non (nomark _)) (pw_and1 (pt_not (pt_val (pe_fn C_law_alone hr (by decide : 1 ≤ 4) (by rfl) (pa_cons (pv 4) pa_nil)))))))))) (pss_one (ps_ret pe_str)) pss_nil)
      (pss_one (ps_ret (pv 5)))))))), ?_⟩
  refine ⟨_, rfl, rfl, _, rfl, iteDd (fun c => ?_) (fun c => ?_)⟩
  · have c : w = 0 := by injection c
    refine ⟨_, rfl, _, rfl, v, s, pb, ps, pe, v2, u, qb, qs, qe, rfl, hV, hU, ls_.lens, lu.lens, fun hs => ⟨c_OtherSigns, rfl, .inl ⟨XB.sub_OtherSigns_OtherSigns, fun x hx => ?_⟩⟩, fun hs hc => ⟨c_TooMany, rfl, .inr ⟨XB.sub_TooMany_OtherSigns, XB.sub_TooMany_TooMany, fun x hx => ?_⟩⟩, fun hs hc v' H' pb' ps' pe' g hN ap => ?_⟩
    · have e : dueW w s u = "signs" := by unfold dueW; rw [if_neg hs]
      rw [e] at q
      refine ⟨_, rfl, rfl, _, rfl, iteD (fun z => nomatch z) ⟨_, rfl, rfl, _, rfl, iteNd (fun _ => ⟨_, rfl, x, c_OtherSigns, rfl, upd_same, .inl rfl, fun H9 g9 => ⟨_, rfl, iteF ⟨_, rfl, ?_⟩⟩⟩) (fun z => nomatch z)⟩⟩
      exact q _ ((same_new hx _).trans g9)
    · have e : dueW w s u = "many" := by unfold dueW; rw [if_pos hs, if_pos (by rw [if_pos c]; exact hc)]
      rw [e] at q
      refine ⟨_, rfl, rfl, _, rfl, iteD (fun z => nomatch z) ⟨_, rfl, rfl, _, rfl, iteNd (fun _ => ⟨_, rfl, x, c_TooMany, rfl, upd_same, .inr rfl, fun H9 g9 => ⟨_, rfl, iteF ⟨_, rfl, ?_⟩⟩⟩) (fun z => nomatch z)⟩⟩
      exact q _ ((same_new hx _).trans g9)
    · have e : dueW w s u = "told" := by unfold dueW; rw [if_pos hs, if_neg (by rw [if_pos c]; omega)]
      rw [e] at q
      refine ⟨_, rfl, rfl, _, rfl, iteDT rfl ⟨_, rfl, v', dScr (eithS s u), "tuple", rfl, hN.v.rep, .inl rfl, _, rfl, iteF ⟨_, rfl, rfl, _, rfl, iteNd (fun z => absurd rfl z) (fun _ => ⟨_, rfl, ?_⟩)⟩⟩⟩
      exact q _ g
  · have c : ¬ w = 0 := fun z => c (by rw [z])
    refine ⟨_, rfl, _, rfl, v, s, pb, ps, pe, v2, u, qb, qs, qe, rfl, hV.v, hU.v, ls_, lu, hn, hm, fun hs => ⟨c_OtherSigns, rfl, .inl ⟨XB.sub_OtherSigns_OtherSigns, fun x hx => ?_⟩⟩, fun hs hc => ⟨c_TooMany, rfl, .inr ⟨XB.sub_TooMany_OtherSigns, XB.sub_TooMany_TooMany, fun x hx => ?_⟩⟩, fun hs hc v' H' pb' ps' pe' g hN ap => ?_⟩
    · have e : dueW w s u = "signs" := by unfold dueW; rw [if_neg hs]
      rw [e] at q
      refine ⟨_, rfl, rfl, _, rfl, iteD (fun z => nomatch z) ⟨_, rfl, rfl, _, rfl, iteNd (fun _ => ⟨_, rfl, x, c_OtherSigns, rfl, upd_same, .inl rfl, fun H9 g9 => ⟨_, rfl, iteF ⟨_, rfl, ?_⟩⟩⟩) (fun z => nomatch z)⟩⟩
      exact q _ ((same_new hx _).trans g9)
    · have e : dueW w s u = "many" := by unfold dueW; rw [if_pos hs, if_pos (by rw [if_neg c]; exact hc)]
      rw [e] at q
      refine ⟨_, rfl, rfl, _, rfl, iteD (fun z => nomatch z) ⟨_, rfl, rfl, _, rfl, iteNd (fun _ => ⟨_, rfl, x, c_TooMany, rfl, upd_same, .inr rfl, fun H9 g9 => ⟨_, rfl, iteF ⟨_, rfl, ?_⟩⟩⟩) (fun z => nomatch z)⟩⟩
      exact q _ ((same_new hx _).trans g9)
    · have e : dueW w s u = "told" := by unfold dueW; rw [if_pos hs, if_neg (by rw [if_neg c]; omega)]
      rw [e] at q
      refine ⟨_, rfl, rfl, _, rfl, iteDT rfl ⟨_, rfl, v', dScr (kpS s u), "tuple", rfl, hN.v.rep, .inl rfl, _, rfl, iteF ⟨_, rfl, rfl, _, rfl, iteNd (fun z => absurd rfl z) (fun _ => ⟨_, rfl, ?_⟩)⟩⟩⟩
      exact q _ g

theorem sc_law : FnScope ["_law_script", "_law_number", "_law_rooms_here", "_law_signs", "_law_one", "_law_other", "_law_handed", "_law_many", "_law_word", "_law_due"] ["_law_script"] (defScope s_law) := ⟨rfl, rfl, rfl, by decide +kernel, rfl, by decide +kernel, by decide +kernel⟩
theorem ok_law (B : Bi mg) {c_ScribeError c_NoWay c_NoRoom c_NotPlain c_OtherSigns c_TooMany c_TwoWays c_NeverPlain c_NoText : Addr} (XB : Xb K mg c_ScribeError c_NoWay c_NoRoom c_NotPlain c_OtherSigns c_TooMany c_TwoWays c_NeverPlain c_NoText) (C_law_mixed : Cal P w K mg base "_law_mixed" ["_law_cell", "_law_k"] 1 (spMixed)) (C_law_rooms : Cal P w K mg base "_law_rooms" ["_law_number"] 1 (spRooms K)) (C_law_few : Cal P w K mg base "_law_few" ["_law_script", "_law_salt", "_law_rooms_here", "_law_signs"] 2 (spFew K)) (C_law_cell_at : Cal P w K mg base "_law_cell_at" ["_law_script", "_law_k"] 1 (spCell K)) (C_law_copy : Cal P w K mg base "_law_copy" ["_law_scribe"] 1 (spCopied K)) (C_law_refusal : Cal P w K mg base "_law_refusal" ["_law_word", "_law_one", "_law_other"] 5 (spRefusal K)) {f : Addr} {fd : FuncData} (F : Fun K "law" "law" s_law f fd) : FnOk P w K mg base CX0 6 f fd ["_law_script"] (spLaw K) := by
  refine F.ok sc_law (fun vs H Q E h => ?_) (fun cdv A outer s H vs Q E hr h => ?_)
  · obtain ⟨a, ns, rfl, _⟩ := h; rfl
  obtain ⟨a, ns, rfl, hS, h63, q⟩ := h
  refine ⟨_, (pss_cons (ps_set (i := 1) sc_law.nd rfl (Or.inl rfl) (pe_fn C_law_mixed hr (by decide : 1 ≤ 5) (by rfl) (pa_cons (hs := starC) (pe_fn C_law_cell_at hr (by decide : 1 ≤ 5) (by rfl) (pa_cons (pv 0) (pa_cons pe_int pa_nil))) (pa_cons pe_int pa_nil))))
      (pss_cons (ps_set (i := 2) sc_law.nd rfl (Or.inl rfl) (pe_fn C_law_rooms hr (by decide : 1 ≤ 5) (by rfl) (pa_cons (pv 1) pa_nil)))
      (pss_cons (ps_set (i := 3) sc_law.nd rfl (Or.inl rfl) (pe_ix (kIx (K := K) rIxL ix_list) (th_sg (pe_ix (kIx (K := K) rIxL ix_list) (pe_lst (pa_cons pe_str (pa_cons pe_str (pa_cons pe_str (pa_cons pe_str pa_nil))))) (pe_op op_mod (pe_op op_fdiv (pv 1) pe_int) pe_int) (by intro _ _; rfl))) (pe_op op_mod (pe_op op_fdiv (pv 1) pe_int) pe_int) (by intro _ _; rfl)))
      (pss_cons (ps_set (i := 4) sc_law.nd rfl (Or.inl rfl) (pe_fn C_law_few hr (by decide : 2 ≤ 5) (by rfl) (pa_cons (pv 0) (pa_cons pe_int (pa_cons (hs := starS) (pe_ix (kIx (K := K) rIxL ix_list) (pv 2) pe_int (by intro _ _; rfl)) (pa_cons pe_str pa_nil))))))
      (pss_cons (ps_set (i := 5) sc_law.nd rfl (Or.inl rfl) (pe_fn C_law_few hr (by decide : 2 ≤ 5) (by rfl) (pa_cons (pv 0) (pa_cons pe_int (pa_cons (hs := starC) (pe_callB (call_min2 (by rfl)) (by rfl) B.min bt_min (pa_cons (hs := starS) (pe_ix (kIx (K := K) rIxL ix_list) (pv 2) pe_int (by intro _ _; rfl)) (pa_cons pe_int pa_nil))) (pa_cons (pv 3) pa_nil))))))
      (pss_cons (ps_set (i := 6) sc_law.nd rfl (Or.inl rfl) (pe_lst (pa_cons (hs := starC) (pe_fn C_law_copy hr (by decide : 1 ≤ 5) (by rfl) (pa_cons (pv 4) pa_nil)) (pa_cons (hs := starC) (pe_fn C_law_copy hr (by decide : 1 ≤ 5) (by rfl) (pa_cons (pv 5) pa_nil)) pa_nil))))
      (pss_cons (ps_set (i := 7) sc_law.nd rfl (Or.inl rfl) (pe_lst (pa_cons (hs := starB) (pe_op op_add (pe_ix (kIx (K := K) rIxT ix_tup) (pv 4) pe_int (by intro _ _; rfl)) (pe_ix (kIx (K := K) rIxT ix_tup) (pv 5) pe_int (by intro _ _; rfl))) (pa_cons (hs := starB) (pe_op op_mul (pe_ix (kIx (K := K) rIxT ix_tup) (pv 4) pe_int (by intro _ _; rfl)) (pe_ix (kIx (K := K) rIxT ix_tup) (pv 5) pe_int (by intro _ _; rfl))) pa_nil))))
      (pss_cons (ps_for PassesOwn.never (by rfl) (pi_range1 (by rfl) B.range (pa_cons pe_int pa_nil)) (pg_name (i := 8) sc_law.nd rfl (Or.inl rfl)) (pss_cons (ps_set (i := 9) sc_law.nd rfl (Or.inl rfl) (pe_ix (kIx (K := K) rIxL ix_list) (pe_lst (pa_cons pe_str (pa_cons pe_str pa_nil))) (pe_callTy call_int1 (by rfl) B.int bt_int (pa_cons (pe_cmpR op_gt (pe_ix (kIx (K := K) rIxL ix_list) (pv 7) (pv 8) (by intro _ _; rfl)) pe_int (nomark _)) pa_nil)) (by intro _ _; rfl)))
      (pss_mid (ps_if (pt_cmpR op_ne (pv 3) pe_str (nomark _)) (pss_one (ps_set (i := 9) sc_law.nd rfl (Or.inl rfl) pe_str)) pss_nil)
      (pss_one (ps_if (PW.pt (pw_or (pt_cmpR op_ne (pe_fn C_law_refusal hr (by decide : 5 ≤ 5) (by rfl) (pa_cons (pv 8) (pa_cons (hs := starS) (pe_ix (kIx (K := K) rIxL ix_list) (pv 6) pe_int (by intro _ _; rfl)) (pa_cons (hs := starS) (pe_ix (kIx (K := K) rIxL ix_list) (pv 6) pe_int (by intro _ _; rfl)) pa_nil)))) (pv 9) (nomark _)) (pw_or1 (pt_cmpR (kOp (K := K) rNeD (op_neD hr.units)) (pv 6) (pe_lst (pa_cons (pv 4) (pa_cons (pv 5) pa_nil))) (nomark _))))) (pss_one (ps_ret pe_bl)) pss_nil)))))
      (pss_one (ps_ret pe_bl)))))))))), ?_⟩
  refine ⟨_, rfl, a, ns, 0, rfl, hS, by decide, _, _, rfl, fun n0 hn0 hn1 => ?_⟩
  refine ⟨_, rfl, n0, rfl, fun lr H1 x y g1 elr x0 x1 y0 y1 => ?_⟩
  refine ⟨szl (by simp), fun p hp => ?_⟩
  have gp := same_new hp (.lst [V.str "ba", V.str "a", V.str "abc", V.str "b"])
  have ep := upd_same (H := H1) (a := p) (o := .lst [V.str "ba", V.str "a", V.str "abc", V.str "b"])
  generalize upd H1 p (.lst [V.str "ba", V.str "a", V.str "abc", V.str "b"]) = H2 at gp ep ⊢
  obtain ⟨z0, hz0, hm0⟩ := at_mem (xs := [V.str "ba", V.str "a", V.str "abc", V.str "b"]) (i := n0 / 700000 % 4) (by omega) (by show n0 / 700000 % 4 < 4; omega)
  obtain ⟨g0, rfl, hg0⟩ := sg_few _ hm0
  refine ⟨_, rfl, _, _, rfl, rfl, ⟨by decide, by decide⟩, _, _, rfl, rfl, pz, p, _, _, _, rfl, rfl, SqL.of ep, hz0, szl (by simp), fun p2 hp2 => ?_⟩
  have gp2 := same_new hp2 (.lst [V.str "ab", V.str "ab", V.str "ab", V.str g0])
  have ep2 := upd_same (H := H2) (a := p2) (o := .lst [V.str "ab", V.str "ab", V.str "ab", V.str g0])
  have g12 := gp.trans gp2
  have elr := g12 _ _ elr
  have g3 := g1.trans g12
  generalize upd H2 p2 (.lst [V.str "ab", V.str "ab", V.str "ab", V.str g0]) = H3 at ep2 elr g3 ⊢
  obtain ⟨z1, hz1, hm1⟩ := at_mem (xs := [V.str "ab", V.str "ab", V.str "ab", V.str g0]) (i := n0 / 200000 % 4) (by omega) (by show n0 / 200000 % 4 < 4; omega)
  obtain ⟨g, rfl, hg⟩ : isSgn z1 := by
    simp only [List.mem_cons, List.not_mem_nil, or_false] at hm1
    rcases hm1 with rfl | rfl | rfl | rfl
    · exact ⟨_, rfl, sg_ab⟩
    · exact ⟨_, rfl, sg_ab⟩
    · exact ⟨_, rfl, sg_ab⟩
    · exact ⟨_, rfl, hg0⟩
  refine ⟨_, rfl, _, _, rfl, rfl, ⟨by decide, by decide⟩, _, _, rfl, rfl, pz, p2, _, _, _, rfl, rfl, SqL.of ep2, hz1, ?_⟩
  refine ⟨_, rfl, _, rfl, _, _, _, _, rfl, rfl, SqL.of elr, rfl, a, ns, 1000, x, "ab", rfl, g3.seq hS, h63, x0, by omega, sg_ab, fun v1 H4 s pb ps pe g4 hV1 ok1 hr1 hs => ?_⟩
  have g34 := g3.trans g4
  have elr4 := g4 _ _ elr
  have hy : 0 ≤ (if (200 : Int) < y then 200 else y) ∧ (if (200 : Int) < y then 200 else y) ≤ 200 := by split <;> omega
  refine ⟨_, rfl, _, rfl, _, _, _, _, rfl, rfl, SqL.of elr4, rfl, _, _, rfl, _, rfl, a, ns, 2000, _, g, rfl, g34.seq hS, h63, hy.1, by omega, hg, fun v2 H5 u qb qs qe g5 hV2 ok2 hr2 hu => ?_⟩
  have hV1 := hV1.mono g5
  have S1 : Sm s := ⟨Nat.le_trans ok1.lb (by decide), Nat.le_trans ok1.ls (by decide), Nat.le_trans ok1.le (by decide)⟩
  have S2 : Sm u := ⟨Nat.le_trans ok2.lb (by decide), Nat.le_trans ok2.ls (by decide), Nat.le_trans ok2.le (by decide)⟩
  have M1 : Nm s.rooms := ⟨by omega, by omega⟩
  have M2 : Nm u.rooms := ⟨by omega, by omega⟩
  clear ok1 ok2 hz0 hm0 hz1 hm1 ep ep2 hg0
  refine ⟨_, rfl, v1, s, pb, ps, pe, rfl, hV1, fun w1 H6 pb1 ps1 pe1 g6 hN1 _ => ?_⟩
  refine ⟨_, rfl, v2, u, qb, qs, qe, rfl, hV2.mono g6, fun w2 H7 pb2 ps2 pe2 g7 hN2 _ => ⟨szl (by simp), fun lh hlh => ?_⟩⟩
  have gl := same_new hlh (.lst [w1, w2])
  have eh := upd_same (H := H7) (a := lh) (o := .lst [w1, w2])
  have g7l := g7.trans gl
  have hN1 := hN1.mono g7l
  have hN2 := hN2.mono gl
  have g67 := g6.trans g7l
  have hV1 := hV1.mono g67
  have hV2 := hV2.mono g67
  generalize upd H7 lh (.lst [w1, w2]) = H8 at gl eh hN1 hN2 hV1 hV2 ⊢
  obtain ⟨av, xb, xs, xe, e1, t1, _⟩ := id hV1
  obtain ⟨bv, yb, ys, ye, e2, t2, _⟩ := id hV2
  subst e1 e2
  refine ⟨_, rfl, _, _, _, _, rfl, rfl, t1, rfl, _, rfl, _, _, _, _, rfl, rfl, t2, rfl, _, _, rfl, rfl, _, rfl, _, _, _, _, rfl, rfl, t1, rfl, _, rfl, _, _, _, _, rfl, rfl, t2, rfl, _, _, rfl, rfl, .inl ⟨by have := M1.1; omega, by have := M1.2; omega⟩, szl (by simp), fun lm hlm => ?_⟩
  have gm := same_new hlm (.lst [V.int (s.rooms + u.rooms), V.int (s.rooms * u.rooms)])
  have em := upd_same (H := H8) (a := lm) (o := .lst [V.int (s.rooms + u.rooms), V.int (s.rooms * u.rooms)])
  have eh := gm _ _ eh
  have hN1 := hN1.mono gm
  have hN2 := hN2.mono gm
  have hV1 := hV1.mono gm
  have hV2 := hV2.mono gm
  generalize upd H8 lm (.lst [V.int (s.rooms + u.rooms), V.int (s.rooms * u.rooms)]) = H9 at em eh hN1 hN2 hV1 hV2 ⊢
  obtain ⟨v1, ev1⟩ : ∃ v1 : V, v1 = .ref av := ⟨_, rfl⟩
  obtain ⟨v2, ev2⟩ : ∃ v2 : V, v2 = .ref bv := ⟨_, rfl⟩
  rw [← ev1, ← ev2]
  rw [← ev1] at hV1
  rw [← ev2] at hV2
  clear ev1 ev2 t1 t2
  refine ⟨_, rfl, by decide, by decide, ?_⟩
  refine for_range (fun i σ H' => Same H9 H' ∧ ∃ x8 x9, σ = [some (.ref a), some (.int n0), some (.ref lr), some (.str g), some v1, some v2, some (.ref lh), some (.ref lm), x8, x9]) ⟨Same.refl _, _, _, rfl⟩ ?_ ?_
  · rintro i σ H7 hi ⟨g7, x8, x9, rfl⟩
    have hi2 : i < 2 := hi
    have hc : i = 0 ∨ i = 1 := by omega
    rcases hc with rfl | rfl
    · have hat : atI [V.int (s.rooms + u.rooms), V.int (s.rooms * u.rooms)] (0 + ((0 : Nat) : Int)) = some (.int (s.rooms + u.rooms)) := rfl
      refine ⟨szl (by simp), fun p hp => ?_⟩
      have gp := same_new hp (.lst [V.str "told", V.str "many"])
      have ep := upd_same (H := H7) (a := p) (o := .lst [V.str "told", V.str "many"])
      have g8 := g7.trans gp
      generalize upd H7 p (.lst [V.str "told", V.str "many"]) = H8 at ep g8 ⊢
      have em8 := g8 _ _ em
      have eh8 := g8 _ _ eh
      refine ⟨_, rfl, _, rfl, _, _, _, _, rfl, rfl, SqL.of em8, hat, _, _, rfl, rfl, .inr ⟨_, rfl, p, _, _, .str (if 200 < s.rooms + u.rooms then ("many" : Str) else "told"), rfl, rfl, SqL.of ep, ?_, ?_⟩⟩
      · by_cases c : 200 < s.rooms + u.rooms
        · rw [if_pos c, decide_eq_true (show s.rooms + u.rooms > 200 from c)]; rfl
        · rw [if_neg c, decide_eq_false (show ¬ s.rooms + u.rooms > 200 from c)]; rfl
      refine ⟨fun σ' H' => H8 = H' ∧ σ' = [some (.ref a), some (.int n0), some (.ref lr), some (.str g), some v1, some v2, some (.ref lh), some (.ref lm), some (.int (0 + ((0 : Nat) : Int))), some (.str (dueW 0 s u))], ?_, ?_⟩
      · refine ⟨_, rfl, rfl, _, rfl, iteNd (fun c => ?_) (fun c => ?_)⟩
        · have e : dueW 0 s u = "signs" := by unfold dueW; rw [hs, hu, if_neg (fun z => c (by rw [z]))]
          rw [e]; exact ⟨rfl, rfl⟩
        · have e : dueW 0 s u = if 200 < s.rooms + u.rooms then ("many" : Str) else "told" := by
            have z : g = "ab" := by injection c
            unfold dueW; rw [hs, hu, if_pos z.symm, if_pos (show (0 : Int) = 0 from rfl)]
          rw [e]; exact ⟨rfl, rfl⟩
      rintro _ _ ⟨rfl, rfl⟩
      refine ⟨_, rfl, _, rfl, _, _, _, _, rfl, rfl, SqL.of eh8, rfl, _, rfl, _, _, _, _, rfl, rfl, SqL.of eh8, rfl, 0, w1, s, pb1, ps1, pe1, w2, u, pb2, ps2, pe2, rfl, hN1.mono g8, hN2.mono g8, S1, S2, M1, M2, fun H9 g9 => ?_⟩
      have g9 := g8.trans g9
      refine ⟨_, rfl, rfl, _, rfl, iteNd (fun c => absurd rfl c) (fun _ => ?_)⟩
      refine ⟨_, rfl, _, rfl, _, rfl, szl (by simp), fun p2 hp2 => ?_⟩
      have gp2 := same_new hp2 (.lst [v1, v2])
      have g10 := g9.trans gp2
      refine ⟨.lst [dScr s, dScr u], .lst [dScr s, dScr u], rep_lst (SqL.of (g10 _ _ eh)) (.cons (hN1.mono g10).v.rep (.cons (hN2.mono g10).v.rep .nil)), rep_lst (SqL.of upd_same) (.cons (hV1.mono g10).rep (.cons (hV2.mono g10).rep .nil)), ?_, _, rfl, ?_⟩
      · have e1 := deep_dScr s
        have e2 := deep_dScr u
        simp only [deep, deeps]
        omega
      rw [eqD_refl]
      exact iteF ⟨g10, _, _, rfl⟩
    · have hat : atI [V.int (s.rooms + u.rooms), V.int (s.rooms * u.rooms)] (0 + ((1 : Nat) : Int)) = some (.int (s.rooms * u.rooms)) := rfl
      refine ⟨szl (by simp), fun p hp => ?_⟩
      have gp := same_new hp (.lst [V.str "told", V.str "many"])
      have ep := upd_same (H := H7) (a := p) (o := .lst [V.str "told", V.str "many"])
      have g8 := g7.trans gp
      generalize upd H7 p (.lst [V.str "told", V.str "many"]) = H8 at ep g8 ⊢
      have em8 := g8 _ _ em
      have eh8 := g8 _ _ eh
      refine ⟨_, rfl, _, rfl, _, _, _, _, rfl, rfl, SqL.of em8, hat, _, _, rfl, rfl, .inr ⟨_, rfl, p, _, _, .str (if 200 < s.rooms * u.rooms then ("many" : Str) else "told"), rfl, rfl, SqL.of ep, ?_, ?_⟩⟩
      · by_cases c : 200 < s.rooms * u.rooms
        · rw [if_pos c, decide_eq_true (show s.rooms * u.rooms > 200 from c)]; rfl
        · rw [if_neg c, decide_eq_false (show ¬ s.rooms * u.rooms > 200 from c)]; rfl
      refine ⟨fun σ' H' => H8 = H' ∧ σ' = [some (.ref a), some (.int n0), some (.ref lr), some (.str g), some v1, some v2, some (.ref lh), some (.ref lm), some (.int (0 + ((1 : Nat) : Int))), some (.str (dueW 1 s u))], ?_, ?_⟩
      · refine ⟨_, rfl, rfl, _, rfl, iteNd (fun c => ?_) (fun c => ?_)⟩
        · have e : dueW 1 s u = "signs" := by unfold dueW; rw [hs, hu, if_neg (fun z => c (by rw [z]))]
          rw [e]; exact ⟨rfl, rfl⟩
        · have e : dueW 1 s u = if 200 < s.rooms * u.rooms then ("many" : Str) else "told" := by
            have z : g = "ab" := by injection c
            unfold dueW; rw [hs, hu, if_pos z.symm, if_neg (show ¬ (1 : Int) = 0 by decide)]
          rw [e]; exact ⟨rfl, rfl⟩
      rintro _ _ ⟨rfl, rfl⟩
      refine ⟨_, rfl, _, rfl, _, _, _, _, rfl, rfl, SqL.of eh8, rfl, _, rfl, _, _, _, _, rfl, rfl, SqL.of eh8, rfl, 1, w1, s, pb1, ps1, pe1, w2, u, pb2, ps2, pe2, rfl, hN1.mono g8, hN2.mono g8, S1, S2, M1, M2, fun H9 g9 => ?_⟩
      have g9 := g8.trans g9
      refine ⟨_, rfl, rfl, _, rfl, iteNd (fun c => absurd rfl c) (fun _ => ?_)⟩
      refine ⟨_, rfl, _, rfl, _, rfl, szl (by simp), fun p2 hp2 => ?_⟩
      have gp2 := same_new hp2 (.lst [v1, v2])
      have g10 := g9.trans gp2
      refine ⟨.lst [dScr s, dScr u], .lst [dScr s, dScr u], rep_lst (SqL.of (g10 _ _ eh)) (.cons (hN1.mono g10).v.rep (.cons (hN2.mono g10).v.rep .nil)), rep_lst (SqL.of upd_same) (.cons (hV1.mono g10).rep (.cons (hV2.mono g10).rep .nil)), ?_, _, rfl, ?_⟩
      · have e1 := deep_dScr s
        have e2 := deep_dScr u
        simp only [deep, deeps]
        omega
      rw [eqD_refl]
      exact iteF ⟨g10, _, _, rfl⟩
  rintro σ H7 ⟨_, x8, x9, rfl⟩
  exact q _

end
theorem len_1 {α : Type} : ∀ {us : List α} (_ : us.length = 1), ∃ u0, us = [u0]
  | [u0], _ => ⟨u0, rfl⟩
theorem len_2 {α : Type} : ∀ {us : List α} (_ : us.length = 2), ∃ u0 u1, us = [u0, u1]
  | [u0, u1], _ => ⟨u0, u1, rfl⟩
theorem len_3 {α : Type} : ∀ {us : List α} (_ : us.length = 3), ∃ u0 u1 u2, us = [u0, u1, u2]
  | [u0, u1, u2], _ => ⟨u0, u1, u2, rfl⟩
theorem len_4 {α : Type} : ∀ {us : List α} (_ : us.length = 4), ∃ u0 u1 u2 u3, us = [u0, u1, u2, u3]
  | [u0, u1, u2, u3], _ => ⟨u0, u1, u2, u3, rfl⟩
theorem all_mk {l : PySem.W.OpenLaw} {w : World} {K : PySem.W.Frag} {h : Heap} {mg : Str → Option Value} {fa f0 f1 f2 f3 f4 f5 f6 f7 f8 f9 f10 f11 f12 f13 f14 f15 c_ScribeError c_NoWay c_NoRoom c_NotPlain c_OtherSigns c_TooMany c_TwoWays c_NeverPlain c_NoText : Addr} (X : K.In h) (G : h.Ns mainGlobals mg) (hfa : mg "law" = some (.ref fa))
    {od0 an0 od1 an1 od2 an2 od3 an3 od4 an4 od5 an5 od6 an6 od7 an7 od8 an8 od9 an9 od10 an10 od11 an11 od12 an12 od13 an13 od14 an14 od15 an15 : Option Addr} {sl0 sl1 sl2 sl3 sl4 sl5 sl6 sl7 sl8 sl9 sl10 sl11 sl12 sl13 sl14 sl15 : Array (Option Value)} {oc0 kV0 dc0 pm0 cd0 ct0 oc1 kV1 dc1 pm1 cd1 ct1 oc2 kV2 dc2 pm2 cd2 ct2 oc3 kV3 dc3 pm3 cd3 ct3 oc4 kV4 dc4 pm4 cd4 ct4 oc5 kV5 dc5 pm5 cd5 ct5 oc6 kV6 dc6 pm6 cd6 ct6 oc7 kV7 dc7 pm7 cd7 ct7 oc8 kV8 dc8 pm8 cd8 ct8 oc9 kV9 dc9 pm9 cd9 ct9 oc10 kV10 dc10 pm10 cd10 ct10 oc11 kV11 dc11 pm11 cd11 ct11 oc12 kV12 dc12 pm12 cd12 ct12 oc13 kV13 dc13 pm13 cd13 ct13 oc14 kV14 dc14 pm14 cd14 ct14 oc15 kV15 dc15 pm15 cd15 ct15 : Value}
    (a0 : PySem.W.nsIn K mainGlobals "refuse_other_signs" = some (some (.ref f0))) (l0 : K.lookup f0 = some ⟨oc0, od0, .func (PySem.W.fnOf "refuse_other_signs" "refuse_other_signs" (defArgs s_refuse_other_signs) (defBody s_refuse_other_signs) (defScope s_refuse_other_signs) .none kV0 dc0 pm0 an0 cd0 ct0), sl0⟩) (c0 : PySem.W.codeIn K cd0 "refuse_other_signs" = true) (k0 : PySem.W.keepIn K (.ref f0) = true)
    (a1 : PySem.W.nsIn K mainGlobals "refuse_many_pairs" = some (some (.ref f1))) (l1 : K.lookup f1 = some ⟨oc1, od1, .func (PySem.W.fnOf "refuse_many_pairs" "refuse_many_pairs" (defArgs s_refuse_many_pairs) (defBody s_refuse_many_pairs) (defScope s_refuse_many_pairs) .none kV1 dc1 pm1 an1 cd1 ct1), sl1⟩) (c1 : PySem.W.codeIn K cd1 "refuse_many_pairs" = true) (k1 : PySem.W.keepIn K (.ref f1) = true)
    (a2 : PySem.W.nsIn K mainGlobals "each_once" = some (some (.ref f2))) (l2 : K.lookup f2 = some ⟨oc2, od2, .func (PySem.W.fnOf "each_once" "each_once" (defArgs s_each_once) (defBody s_each_once) (defScope s_each_once) .none kV2 dc2 pm2 an2 cd2 ct2), sl2⟩) (c2 : PySem.W.codeIn K cd2 "each_once" = true) (k2 : PySem.W.keepIn K (.ref f2) = true)
    (a3 : PySem.W.nsIn K mainGlobals "either_of" = some (some (.ref f3))) (l3 : K.lookup f3 = some ⟨oc3, od3, .func (PySem.W.fnOf "either_of" "either_of" (defArgs s_either_of) (defBody s_either_of) (defScope s_either_of) .none kV3 dc3 pm3 an3 cd3 ct3), sl3⟩) (c3 : PySem.W.codeIn K cd3 "either_of" = true) (k3 : PySem.W.keepIn K (.ref f3) = true)
    (a4 : PySem.W.nsIn K mainGlobals "kept_marks" = some (some (.ref f4))) (l4 : K.lookup f4 = some ⟨oc4, od4, .func (PySem.W.fnOf "kept_marks" "kept_marks" (defArgs s_kept_marks) (defBody s_kept_marks) (defScope s_kept_marks) .none kV4 dc4 pm4 an4 cd4 ct4), sl4⟩) (c4 : PySem.W.codeIn K cd4 "kept_marks" = true) (k4 : PySem.W.keepIn K (.ref f4) = true)
    (a5 : PySem.W.nsIn K mainGlobals "moves_by_sign" = some (some (.ref f5))) (l5 : K.lookup f5 = some ⟨oc5, od5, .func (PySem.W.fnOf "moves_by_sign" "moves_by_sign" (defArgs s_moves_by_sign) (defBody s_moves_by_sign) (defScope s_moves_by_sign) .none kV5 dc5 pm5 an5 cd5 ct5), sl5⟩) (c5 : PySem.W.codeIn K cd5 "moves_by_sign" = true) (k5 : PySem.W.keepIn K (.ref f5) = true)
    (a6 : PySem.W.nsIn K mainGlobals "kept_steps" = some (some (.ref f6))) (l6 : K.lookup f6 = some ⟨oc6, od6, .func (PySem.W.fnOf "kept_steps" "kept_steps" (defArgs s_kept_steps) (defBody s_kept_steps) (defScope s_kept_steps) .none kV6 dc6 pm6 an6 cd6 ct6), sl6⟩) (c6 : PySem.W.codeIn K cd6 "kept_steps" = true) (k6 : PySem.W.keepIn K (.ref f6) = true)
    (a7 : PySem.W.nsIn K mainGlobals "kept_to" = some (some (.ref f7))) (l7 : K.lookup f7 = some ⟨oc7, od7, .func (PySem.W.fnOf "kept_to" "kept_to" (defArgs s_kept_to) (defBody s_kept_to) (defScope s_kept_to) .none kV7 dc7 pm7 an7 cd7 ct7), sl7⟩) (c7 : PySem.W.codeIn K cd7 "kept_to" = true) (k7 : PySem.W.keepIn K (.ref f7) = true)
    (a8 : PySem.W.nsIn K mainGlobals "_law_cell_at" = some (some (.ref f8))) (l8 : K.lookup f8 = some ⟨oc8, od8, .func (PySem.W.fnOf "_law_cell_at" "_law_cell_at" (defArgs s_law_cell_at) (defBody s_law_cell_at) (defScope s_law_cell_at) .none kV8 dc8 pm8 an8 cd8 ct8), sl8⟩) (c8 : PySem.W.codeIn K cd8 "_law_cell_at" = true) (k8 : PySem.W.keepIn K (.ref f8) = true)
    (a9 : PySem.W.nsIn K mainGlobals "_law_mixed" = some (some (.ref f9))) (l9 : K.lookup f9 = some ⟨oc9, od9, .func (PySem.W.fnOf "_law_mixed" "_law_mixed" (defArgs s_law_mixed) (defBody s_law_mixed) (defScope s_law_mixed) .none kV9 dc9 pm9 an9 cd9 ct9), sl9⟩) (c9 : PySem.W.codeIn K cd9 "_law_mixed" = true) (k9 : PySem.W.keepIn K (.ref f9) = true)
    (a10 : PySem.W.nsIn K mainGlobals "_law_copy" = some (some (.ref f10))) (l10 : K.lookup f10 = some ⟨oc10, od10, .func (PySem.W.fnOf "_law_copy" "_law_copy" (defArgs s_law_copy) (defBody s_law_copy) (defScope s_law_copy) .none kV10 dc10 pm10 an10 cd10 ct10), sl10⟩) (c10 : PySem.W.codeIn K cd10 "_law_copy" = true) (k10 : PySem.W.keepIn K (.ref f10) = true)
    (a11 : PySem.W.nsIn K mainGlobals "_law_alone" = some (some (.ref f11))) (l11 : K.lookup f11 = some ⟨oc11, od11, .func (PySem.W.fnOf "_law_alone" "_law_alone" (defArgs s_law_alone) (defBody s_law_alone) (defScope s_law_alone) .none kV11 dc11 pm11 an11 cd11 ct11), sl11⟩) (c11 : PySem.W.codeIn K cd11 "_law_alone" = true) (k11 : PySem.W.keepIn K (.ref f11) = true)
    (a12 : PySem.W.nsIn K mainGlobals "_law_few" = some (some (.ref f12))) (l12 : K.lookup f12 = some ⟨oc12, od12, .func (PySem.W.fnOf "_law_few" "_law_few" (defArgs s_law_few) (defBody s_law_few) (defScope s_law_few) .none kV12 dc12 pm12 an12 cd12 ct12), sl12⟩) (c12 : PySem.W.codeIn K cd12 "_law_few" = true) (k12 : PySem.W.keepIn K (.ref f12) = true)
    (a13 : PySem.W.nsIn K mainGlobals "_law_rooms" = some (some (.ref f13))) (l13 : K.lookup f13 = some ⟨oc13, od13, .func (PySem.W.fnOf "_law_rooms" "_law_rooms" (defArgs s_law_rooms) (defBody s_law_rooms) (defScope s_law_rooms) .none kV13 dc13 pm13 an13 cd13 ct13), sl13⟩) (c13 : PySem.W.codeIn K cd13 "_law_rooms" = true) (k13 : PySem.W.keepIn K (.ref f13) = true)
    (a14 : PySem.W.nsIn K mainGlobals "_law_refusal" = some (some (.ref f14))) (l14 : K.lookup f14 = some ⟨oc14, od14, .func (PySem.W.fnOf "_law_refusal" "_law_refusal" (defArgs s_law_refusal) (defBody s_law_refusal) (defScope s_law_refusal) .none kV14 dc14 pm14 an14 cd14 ct14), sl14⟩) (c14 : PySem.W.codeIn K cd14 "_law_refusal" = true) (k14 : PySem.W.keepIn K (.ref f14) = true)
    (a15 : PySem.W.nsIn K mainGlobals "law" = some (some (.ref f15))) (l15 : K.lookup f15 = some ⟨oc15, od15, .func (PySem.W.fnOf "law" "law" (defArgs s_law) (defBody s_law) (defScope s_law) .none kV15 dc15 pm15 an15 cd15 ct15), sl15⟩) (c15 : PySem.W.codeIn K cd15 "law" = true) (k15 : PySem.W.keepIn K (.ref f15) = true)
    (z0 : PySem.W.nsIn K mainGlobals "ValueError" = some none)
    (z1 : PySem.W.nsIn K mainGlobals "int" = some none)
    (z2 : PySem.W.nsIn K mainGlobals "isinstance" = some none)
    (z3 : PySem.W.nsIn K mainGlobals "len" = some none)
    (z4 : PySem.W.nsIn K mainGlobals "list" = some none)
    (z5 : PySem.W.nsIn K mainGlobals "max" = some none)
    (z6 : PySem.W.nsIn K mainGlobals "min" = some none)
    (z7 : PySem.W.nsIn K mainGlobals "range" = some none)
    (z8 : PySem.W.nsIn K mainGlobals "tuple" = some none)
    {gt0 : Tok} (g0 : PySem.W.nsIn K mainGlobals "BEGINS" = some (some (.int 2 gt0)))
    {gt1 : Tok} (g1 : PySem.W.nsIn K mainGlobals "ENDS" = some (some (.int 4 gt1)))
    {gt2 : Tok} (g2 : PySem.W.nsIn K mainGlobals "MOST_ROOMS" = some (some (.int 200 gt2)))
    {gt3 : Tok} (g3 : PySem.W.nsIn K mainGlobals "ROOMS" = some (some (.int 1 gt3)))
    {gt4 : Tok} (g4 : PySem.W.nsIn K mainGlobals "SIGNS" = some (some (.int 0 gt4)))
    {gt5 : Tok} (g5 : PySem.W.nsIn K mainGlobals "STEPS" = some (some (.int 3 gt5)))
    (x0 : PySem.W.nsIn K mainGlobals "ScribeError" = some (some (.ref c_ScribeError)))
    (x1 : PySem.W.nsIn K mainGlobals "NoWay" = some (some (.ref c_NoWay)))
    (x2 : PySem.W.nsIn K mainGlobals "NoRoom" = some (some (.ref c_NoRoom)))
    (x3 : PySem.W.nsIn K mainGlobals "NotPlain" = some (some (.ref c_NotPlain)))
    (x4 : PySem.W.nsIn K mainGlobals "OtherSigns" = some (some (.ref c_OtherSigns)))
    (x5 : PySem.W.nsIn K mainGlobals "TooMany" = some (some (.ref c_TooMany)))
    (x6 : PySem.W.nsIn K mainGlobals "TwoWays" = some (some (.ref c_TwoWays)))
    (x7 : PySem.W.nsIn K mainGlobals "NeverPlain" = some (some (.ref c_NeverPlain)))
    (x8 : PySem.W.nsIn K mainGlobals "NoText" = some (some (.ref c_NoText)))
    (x9 : PySem.W.excIn K c_OtherSigns bmV "ValueError.__new__" = true)
    (x10 : PySem.W.findIn K (.ref c_OtherSigns) "__getattribute__" = some (some (.builtin "BaseException.__getattribute__")))
    (x11 : PySem.W.findIn K (.ref c_OtherSigns) "__getattr__" = some none)
    (x12 : PySem.W.mroIn K c_OtherSigns (.type "BaseException") = some true)
    (x13 : (PySem.W.clsIn K c_OtherSigns).isSome = true)
    (x14 : PySem.W.findIn K (.ref c_OtherSigns) "__class__" = some (some (.builtin "object.__class__")))
    (x15 : PySem.W.specialIn K (.builtin "object.__class__") "__get__" = some (some (.builtin "getset_descriptor.__get__")))
    (x16 : PySem.W.takesIn K (.builtin "object.__class__") = some true)
    (x17 : PySem.W.mroIn K c_OtherSigns (.type "object") = some true)
    (x18 : PySem.W.excIn K c_TooMany bmV "ValueError.__new__" = true)
    (x19 : PySem.W.findIn K (.ref c_TooMany) "__getattribute__" = some (some (.builtin "BaseException.__getattribute__")))
    (x20 : PySem.W.findIn K (.ref c_TooMany) "__getattr__" = some none)
    (x21 : PySem.W.mroIn K c_TooMany (.type "BaseException") = some true)
    (x22 : (PySem.W.clsIn K c_TooMany).isSome = true)
    (x23 : PySem.W.findIn K (.ref c_TooMany) "__class__" = some (some (.builtin "object.__class__")))
    (x24 : PySem.W.specialIn K (.builtin "object.__class__") "__get__" = some (some (.builtin "getset_descriptor.__get__")))
    (x25 : PySem.W.takesIn K (.builtin "object.__class__") = some true)
    (x26 : PySem.W.mroIn K c_TooMany (.type "object") = some true)
    (x27 : PySem.W.typeIn K (.ref c_OtherSigns) = some (.type "type"))
    (x28 : (PySem.W.clsIn K c_OtherSigns).isSome = true)
    (x29 : PySem.W.mroIn K c_OtherSigns (.type "BaseException") = some true)
    (x30 : PySem.W.mroIn K c_OtherSigns (.ref c_OtherSigns) = some true)
    (x31 : PySem.W.mroIn K c_TooMany (.ref c_OtherSigns) = some false)
    (x32 : PySem.W.typeIn K (.ref c_TooMany) = some (.type "type"))
    (x33 : (PySem.W.clsIn K c_TooMany).isSome = true)
    (x34 : PySem.W.mroIn K c_TooMany (.type "BaseException") = some true)
    (x35 : PySem.W.mroIn K c_OtherSigns (.ref c_TooMany) = some false)
    (x36 : PySem.W.mroIn K c_TooMany (.ref c_TooMany) = some true)
    (x37 : PySem.W.kitOne K (.ref c_OtherSigns) (.ref c_NoText) = some false)
    (x38 : PySem.W.kitOne K (.ref c_OtherSigns) (.ref c_NeverPlain) = some false)
    (x39 : PySem.W.kitOne K (.ref c_OtherSigns) (.ref c_TwoWays) = some false)
    (x40 : PySem.W.kitOne K (.ref c_OtherSigns) (.ref c_TooMany) = some false)
    (x41 : PySem.W.kitOne K (.ref c_OtherSigns) (.ref c_OtherSigns) = some true)
    (x42 : PySem.W.kitOne K (.ref c_OtherSigns) (.ref c_NotPlain) = some false)
    (x43 : PySem.W.kitOne K (.ref c_OtherSigns) (.ref c_NoRoom) = some false)
    (x44 : PySem.W.kitOne K (.ref c_OtherSigns) (.ref c_NoWay) = some false)
    (x45 : PySem.W.kitOne K (.ref c_OtherSigns) (.ref c_ScribeError) = some true)
    (x46 : PySem.W.kitOne K (.ref c_OtherSigns) (.type "ValueError") = some true)
    (x47 : PySem.W.kitOne K (.ref c_TooMany) (.ref c_NoText) = some false)
    (x48 : PySem.W.kitOne K (.ref c_TooMany) (.ref c_NeverPlain) = some false)
    (x49 : PySem.W.kitOne K (.ref c_TooMany) (.ref c_TwoWays) = some false)
    (x50 : PySem.W.kitOne K (.ref c_TooMany) (.ref c_TooMany) = some true)
    (x51 : PySem.W.kitOne K (.ref c_TooMany) (.ref c_OtherSigns) = some false)
    (x52 : PySem.W.kitOne K (.ref c_TooMany) (.ref c_NotPlain) = some false)
    (x53 : PySem.W.kitOne K (.ref c_TooMany) (.ref c_NoRoom) = some false)
    (x54 : PySem.W.kitOne K (.ref c_TooMany) (.ref c_NoWay) = some false)
    (x55 : PySem.W.kitOne K (.ref c_TooMany) (.ref c_ScribeError) = some true)
    (x56 : PySem.W.kitOne K (.ref c_TooMany) (.type "ValueError") = some true) :
    ∃ fd : FuncData, (∀ (s : Shared) (v : Value), BindsTo s fd ⟨[v], []⟩ [("_law_script", v)]) ∧ ∀ base : Heap, K.In base → base.Ns mainGlobals mg → FnOk l.prog w K mg base CX0 6 fa fd ["_law_script"] (spLaw K) := by
  have e := hfa.symm.trans (PySem.W.mg_of X G a15)
  cases e
  have B : Bi mg := ⟨PySem.W.mg_none_of X G z0, PySem.W.mg_none_of X G z1, PySem.W.mg_none_of X G z2, PySem.W.mg_none_of X G z3, PySem.W.mg_none_of X G z4, PySem.W.mg_none_of X G z5, PySem.W.mg_none_of X G z6, PySem.W.mg_none_of X G z7, PySem.W.mg_none_of X G z8, ⟨_, PySem.W.mg_of X G g0⟩, ⟨_, PySem.W.mg_of X G g1⟩, ⟨_, PySem.W.mg_of X G g2⟩, ⟨_, PySem.W.mg_of X G g3⟩, ⟨_, PySem.W.mg_of X G g4⟩, ⟨_, PySem.W.mg_of X G g5⟩⟩
  have nm_ScribeError := PySem.W.mg_of X G x0
  have nm_NoWay := PySem.W.mg_of X G x1
  have nm_NoRoom := PySem.W.mg_of X G x2
  have nm_NotPlain := PySem.W.mg_of X G x3
  have nm_OtherSigns := PySem.W.mg_of X G x4
  have nm_TooMany := PySem.W.mg_of X G x5
  have nm_TwoWays := PySem.W.mg_of X G x6
  have nm_NeverPlain := PySem.W.mg_of X G x7
  have nm_NoText := PySem.W.mg_of X G x8
  have own_OtherSigns : OwnX K mg "OtherSigns" c_OtherSigns := ⟨nm_OtherSigns, x9⟩
  have xc_OtherSigns : XCls K c_OtherSigns := ⟨x10, x11, x12, x13, x14, x15, x16, x17⟩
  have own_TooMany : OwnX K mg "TooMany" c_TooMany := ⟨nm_TooMany, x18⟩
  have xc_TooMany : XCls K c_TooMany := ⟨x19, x20, x21, x22, x23, x24, x25, x26⟩
  have cl_OtherSigns : Clause K mg "OtherSigns" c_OtherSigns := ⟨nm_OtherSigns, x27, x28, x29⟩
  have sub_OtherSigns_OtherSigns := x30
  have sub_TooMany_OtherSigns := x31
  have cl_TooMany : Clause K mg "TooMany" c_TooMany := ⟨nm_TooMany, x32, x33, x34⟩
  have sub_OtherSigns_TooMany := x35
  have sub_TooMany_TooMany := x36
  have is_OtherSigns_NoText := x37
  have is_OtherSigns_NeverPlain := x38
  have is_OtherSigns_TwoWays := x39
  have is_OtherSigns_TooMany := x40
  have is_OtherSigns_OtherSigns := x41
  have is_OtherSigns_NotPlain := x42
  have is_OtherSigns_NoRoom := x43
  have is_OtherSigns_NoWay := x44
  have is_OtherSigns_ScribeError := x45
  have iv_OtherSigns_ValueError := x46
  have is_TooMany_NoText := x47
  have is_TooMany_NeverPlain := x48
  have is_TooMany_TwoWays := x49
  have is_TooMany_TooMany := x50
  have is_TooMany_OtherSigns := x51
  have is_TooMany_NotPlain := x52
  have is_TooMany_NoRoom := x53
  have is_TooMany_NoWay := x54
  have is_TooMany_ScribeError := x55
  have iv_TooMany_ValueError := x56
  have XB : Xb K mg c_ScribeError c_NoWay c_NoRoom c_NotPlain c_OtherSigns c_TooMany c_TwoWays c_NeverPlain c_NoText := ⟨nm_ScribeError, nm_NoWay, nm_NoRoom, nm_NotPlain, nm_OtherSigns, nm_TooMany, nm_TwoWays, nm_NeverPlain, nm_NoText, own_OtherSigns, xc_OtherSigns, own_TooMany, xc_TooMany, cl_OtherSigns, sub_OtherSigns_OtherSigns, sub_TooMany_OtherSigns, cl_TooMany, sub_OtherSigns_TooMany, sub_TooMany_TooMany, is_OtherSigns_NoText, is_OtherSigns_NeverPlain, is_OtherSigns_TwoWays, is_OtherSigns_TooMany, is_OtherSigns_OtherSigns, is_OtherSigns_NotPlain, is_OtherSigns_NoRoom, is_OtherSigns_NoWay, is_OtherSigns_ScribeError, iv_OtherSigns_ValueError, is_TooMany_NoText, is_TooMany_NeverPlain, is_TooMany_TwoWays, is_TooMany_TooMany, is_TooMany_OtherSigns, is_TooMany_NotPlain, is_TooMany_NoRoom, is_TooMany_NoWay, is_TooMany_ScribeError, iv_TooMany_ValueError⟩
  have F0 := fun_mk (st := s_refuse_other_signs) l0 c0 k0
  have F1 := fun_mk (st := s_refuse_many_pairs) l1 c1 k1
  have F2 := fun_mk (st := s_each_once) l2 c2 k2
  have F3 := fun_mk (st := s_either_of) l3 c3 k3
  have F4 := fun_mk (st := s_kept_marks) l4 c4 k4
  have F5 := fun_mk (st := s_moves_by_sign) l5 c5 k5
  have F6 := fun_mk (st := s_kept_steps) l6 c6 k6
  have F7 := fun_mk (st := s_kept_to) l7 c7 k7
  have F8 := fun_mk (st := s_law_cell_at) l8 c8 k8
  have F9 := fun_mk (st := s_law_mixed) l9 c9 k9
  have F10 := fun_mk (st := s_law_copy) l10 c10 k10
  have F11 := fun_mk (st := s_law_alone) l11 c11 k11
  have F12 := fun_mk (st := s_law_few) l12 c12 k12
  have F13 := fun_mk (st := s_law_rooms) l13 c13 k13
  have F14 := fun_mk (st := s_law_refusal) l14 c14 k14
  have F15 := fun_mk (st := s_law) l15 c15 k15
  refine ⟨PySem.W.fnOf "law" "law" (defArgs s_law) (defBody s_law) (defScope s_law) .none kV15 dc15 pm15 an15 cd15 ct15, fun s v => .of_eq rfl, fun base _ _ => ?_⟩
  have C_refuse_other_signs : Cal1 l.prog w K mg base "refuse_other_signs" ["one", "other"] 1 (spOther K c_OtherSigns) := ⟨_, _, ok_refuse_other_signs (P := l.prog) (w := w) (base := base) B XB  F0, F0.binds (ps := ["one", "other"]) (fun _ _ _ _ _ _ us hl => by obtain ⟨u0, u1, rfl⟩ := len_2 hl; rfl), F0.kp, PySem.W.mg_of X G a0⟩
  have C_refuse_many_pairs : Cal1 l.prog w K mg base "refuse_many_pairs" ["one", "other"] 1 (spPairsN K c_TooMany) := ⟨_, _, ok_refuse_many_pairs (P := l.prog) (w := w) (base := base) B XB  F1, F1.binds (ps := ["one", "other"]) (fun _ _ _ _ _ _ us hl => by obtain ⟨u0, u1, rfl⟩ := len_2 hl; rfl), F1.kp, PySem.W.mg_of X G a1⟩
  have C_each_once : Cal l.prog w K mg base "each_once" ["parts"] 1 (spOnce K) := ⟨_, _, ok_each_once (P := l.prog) (w := w) (base := base) B XB  F2, F2.binds (ps := ["parts"]) (fun _ _ _ _ _ _ us hl => by obtain ⟨u0, rfl⟩ := len_1 hl; rfl), F2.kp, PySem.W.mg_of X G a2⟩
  have C_either_of : Cal1 l.prog w K mg base "either_of" ["one", "other"] 2 (spEither K c_OtherSigns c_TooMany) := ⟨_, _, ok_either_of (P := l.prog) (w := w) (base := base) B XB C_refuse_other_signs F3, F3.binds (ps := ["one", "other"]) (fun _ _ _ _ _ _ us hl => by obtain ⟨u0, u1, rfl⟩ := len_2 hl; rfl), F3.kp, PySem.W.mg_of X G a3⟩
  have C_kept_marks : Cal l.prog w K mg base "kept_marks" ["marks", "others", "count"] 2 (spKeptM K) := ⟨_, _, ok_kept_marks (P := l.prog) (w := w) (base := base) B XB C_each_once F4, F4.binds (ps := ["marks", "others", "count"]) (fun _ _ _ _ _ _ us hl => by obtain ⟨u0, u1, u2, rfl⟩ := len_3 hl; rfl), F4.kp, PySem.W.mg_of X G a4⟩
  have C_moves_by_sign : Cal l.prog w K mg base "moves_by_sign" ["steps"] 2 (spMoves K) := ⟨_, _, ok_moves_by_sign (P := l.prog) (w := w) (base := base) B XB C_each_once F5, F5.binds (ps := ["steps"]) (fun _ _ _ _ _ _ us hl => by obtain ⟨u0, rfl⟩ := len_1 hl; rfl), F5.kp, PySem.W.mg_of X G a5⟩
  have C_kept_steps : Cal l.prog w K mg base "kept_steps" ["steps", "others", "count"] 3 (spKeptS K) := ⟨_, _, ok_kept_steps (P := l.prog) (w := w) (base := base) B XB C_moves_by_sign F6, F6.binds (ps := ["steps", "others", "count"]) (fun _ _ _ _ _ _ us hl => by obtain ⟨u0, u1, u2, rfl⟩ := len_3 hl; rfl), F6.kp, PySem.W.mg_of X G a6⟩
  have C_kept_to : Cal1 l.prog w K mg base "kept_to" ["scribe", "other"] 4 (spKept K c_OtherSigns c_TooMany) := ⟨_, _, ok_kept_to (P := l.prog) (w := w) (base := base) B XB C_refuse_other_signs C_refuse_many_pairs C_kept_marks C_kept_steps F7, F7.binds (ps := ["scribe", "other"]) (fun _ _ _ _ _ _ us hl => by obtain ⟨u0, u1, rfl⟩ := len_2 hl; rfl), F7.kp, PySem.W.mg_of X G a7⟩
  have C_law_cell_at : Cal l.prog w K mg base "_law_cell_at" ["_law_script", "_law_k"] 1 (spCell K) := ⟨_, _, ok_law_cell_at (P := l.prog) (w := w) (base := base) B XB  F8, F8.binds (ps := ["_law_script", "_law_k"]) (fun _ _ _ _ _ _ us hl => by obtain ⟨u0, u1, rfl⟩ := len_2 hl; rfl), F8.kp, PySem.W.mg_of X G a8⟩
  have C_law_mixed : Cal l.prog w K mg base "_law_mixed" ["_law_cell", "_law_k"] 1 (spMixed) := ⟨_, _, ok_law_mixed (P := l.prog) (w := w) (base := base) B XB  F9, F9.binds (ps := ["_law_cell", "_law_k"]) (fun _ _ _ _ _ _ us hl => by obtain ⟨u0, u1, rfl⟩ := len_2 hl; rfl), F9.kp, PySem.W.mg_of X G a9⟩
  have C_law_copy : Cal l.prog w K mg base "_law_copy" ["_law_scribe"] 1 (spCopied K) := ⟨_, _, ok_law_copy (P := l.prog) (w := w) (base := base) B XB  F10, F10.binds (ps := ["_law_scribe"]) (fun _ _ _ _ _ _ us hl => by obtain ⟨u0, rfl⟩ := len_1 hl; rfl), F10.kp, PySem.W.mg_of X G a10⟩
  have C_law_alone : Cal l.prog w K mg base "_law_alone" ["_law_error"] 1 (spAlone2 K c_OtherSigns c_TooMany) := ⟨_, _, ok_law_alone (P := l.prog) (w := w) (base := base) B XB  F11, F11.binds (ps := ["_law_error"]) (fun _ _ _ _ _ _ us hl => by obtain ⟨u0, rfl⟩ := len_1 hl; rfl), F11.kp, PySem.W.mg_of X G a11⟩
  have C_law_few : Cal l.prog w K mg base "_law_few" ["_law_script", "_law_salt", "_law_rooms_here", "_law_signs"] 2 (spFew K) := ⟨_, _, ok_law_few (P := l.prog) (w := w) (base := base) B XB C_law_mixed F12, F12.binds (ps := ["_law_script", "_law_salt", "_law_rooms_here", "_law_signs"]) (fun _ _ _ _ _ _ us hl => by obtain ⟨u0, u1, u2, u3, rfl⟩ := len_4 hl; rfl), F12.kp, PySem.W.mg_of X G a12⟩
  have C_law_rooms : Cal l.prog w K mg base "_law_rooms" ["_law_number"] 1 (spRooms K) := ⟨_, _, ok_law_rooms (P := l.prog) (w := w) (base := base) B XB  F13, F13.binds (ps := ["_law_number"]) (fun _ _ _ _ _ _ us hl => by obtain ⟨u0, rfl⟩ := len_1 hl; rfl), F13.kp, PySem.W.mg_of X G a13⟩
  have C_law_refusal : Cal l.prog w K mg base "_law_refusal" ["_law_word", "_law_one", "_law_other"] 5 (spRefusal K) := ⟨_, _, ok_law_refusal (P := l.prog) (w := w) (base := base) B XB C_either_of C_kept_to C_law_alone F14, F14.binds (ps := ["_law_word", "_law_one", "_law_other"]) (fun _ _ _ _ _ _ us hl => by obtain ⟨u0, u1, u2, rfl⟩ := len_3 hl; rfl), F14.kp, PySem.W.mg_of X G a14⟩
  exact ok_law (P := l.prog) (w := w) (base := base) B XB C_law_mixed C_law_rooms C_law_few C_law_cell_at C_law_copy C_law_refusal F15
theorem walk {l : PySem.W.OpenLaw} {q : Program} {loose : List Str} {XP : (Str → Option Value) → Heap → Prop} {YP : World → Heap → Prop} {d : DefRec} {K : Params → PySem.W.Frag} (hn : l.most = some 63) (hdf : d.params.defaults = [])
    (hY : ∀ (w : World) (h : Heap), YP w h → (K w.params).In h)
    (F : ∀ (w : World) (mg : Str → Option Value) (fa : Addr) (h : Heap), (K w.params).In h → h.Ns mainGlobals mg → mg d.name = some (.ref fa) →
      ∃ fd : FuncData, (∀ (s : Shared) (u : Value), BindsTo s fd ⟨[u], []⟩ [("_law_script", u)]) ∧ ∀ base : Heap, (K w.params).In base → base.Ns mainGlobals mg → FnOk l.prog w (K w.params) mg base CX0 6 fa fd ["_law_script"] (spLaw (K w.params))) :
    PySem.W.WalkO q loose XP YP l.row.toRowW d [] (fun f vs => PySem.call f vs) :=
  L2.walk_of (n := 63) (k := 6) (x := "_law_script") (CX := fun _ => CX0) (sp := fun w => spLaw (K w.params)) hn (by decide) hdf ⟨rfl, by decide, by decide⟩ hY F (fun _ _ a ns hl _ hS => ⟨a, ns, rfl, hS, hl, fun _ => rfl⟩) fun _ _ _ _ _ z => z
end My
open PySem PySem.W PyProof.Rows
set_option maxRecDepth 100000 in
set_option maxHeartbeats 0 in
theorem PySem.Challenge.cw_earlyscribe_k68_both_refused_holds : PySem.Challenge.rw_earlyscribe_k68_both_refused.Holds := by
  w_on; o_law; k_head; (case hw => w_witness2)
  k_fill
  refine My.walk (l := PySem.Challenge.rw_earlyscribe_k68_both_refused) rfl rfl (fun w h Y => PySem.W.kIn_of Y) ?F
  case F =>
    intro w mg fa h KX G hmg
    refine' My.all_mk KX G hmg ?a0 ?l0 ?c0 ?k0 ?a1 ?l1 ?c1 ?k1 ?a2 ?l2 ?c2 ?k2 ?a3 ?l3 ?c3 ?k3 ?a4 ?l4 ?c4 ?k4 ?a5 ?l5 ?c5 ?k5 ?a6 ?l6 ?c6 ?k6 ?a7 ?l7 ?c7 ?k7 ?a8 ?l8 ?c8 ?k8 ?a9 ?l9 ?c9 ?k9 ?a10 ?l10 ?c10 ?k10 ?a11 ?l11 ?c11 ?k11 ?a12 ?l12 ?c12 ?k12 ?a13 ?l13 ?c13 ?k13 ?a14 ?l14 ?c14 ?k14 ?a15 ?l15 ?c15 ?k15 ?z0 ?z1 ?z2 ?z3 ?z4 ?z5 ?z6 ?z7 ?z8 ?gc0 ?gc1 ?gc2 ?gc3 ?gc4 ?gc5 ?xq0 ?xq1 ?xq2 ?xq3 ?xq4 ?xq5 ?xq6 ?xq7 ?xq8 ?xq9 ?xq10 ?xq11 ?xq12 ?xq13 ?xq14 ?xq15 ?xq16 ?xq17 ?xq18 ?xq19 ?xq20 ?xq21 ?xq22 ?xq23 ?xq24 ?xq25 ?xq26 ?xq27 ?xq28 ?xq29 ?xq30 ?xq31 ?xq32 ?xq33 ?xq34 ?xq35 ?xq36 ?xq37 ?xq38 ?xq39 ?xq40 ?xq41 ?xq42 ?xq43 ?xq44 ?xq45 ?xq46 ?xq47 ?xq48 ?xq49 ?xq50 ?xq51 ?xq52 ?xq53 ?xq54 ?xq55 ?xq56
    (case a0 => k_is); (case l0 => k_is); (case c0 => k_is); (case k0 => k_is)
    (case a1 => k_is); (case l1 => k_is); (case c1 => k_is); (case k1 => k_is)
    (case a2 => k_is); (case l2 => k_is); (case c2 => k_is); (case k2 => k_is)
    (case a3 => k_is); (case l3 => k_is); (case c3 => k_is); (case k3 => k_is)
    (case a4 => k_is); (case l4 => k_is); (case c4 => k_is); (case k4 => k_is)
    (case a5 => k_is); (case l5 => k_is); (case c5 => k_is); (case k5 => k_is)
    (case a6 => k_is); (case l6 => k_is); (case c6 => k_is); (case k6 => k_is)
    (case a7 => k_is); (case l7 => k_is); (case c7 => k_is); (case k7 => k_is)
    (case a8 => k_is); (case l8 => k_is); (case c8 => k_is); (case k8 => k_is)
    (case a9 => k_is); (case l9 => k_is); (case c9 => k_is); (case k9 => k_is)
    (case a10 => k_is); (case l10 => k_is); (case c10 => k_is); (case k10 => k_is)
    (case a11 => k_is); (case l11 => k_is); (case c11 => k_is); (case k11 => k_is)
    (case a12 => k_is); (case l12 => k_is); (case c12 => k_is); (case k12 => k_is)
    (case a13 => k_is); (case l13 => k_is); (case c13 => k_is); (case k13 => k_is)
    (case a14 => k_is); (case l14 => k_is); (case c14 => k_is); (case k14 => k_is)
    (case a15 => k_is); (case l15 => k_is); (case c15 => k_is); (case k15 => k_is)
    (case z0 => k_is)
    (case z1 => k_is)
    (case z2 => k_is)
    (case z3 => k_is)
    (case z4 => k_is)
    (case z5 => k_is)
    (case z6 => k_is)
    (case z7 => k_is)
    (case z8 => k_is)
    (case gc0 => k_is)
    (case gc1 => k_is)
    (case gc2 => k_is)
    (case gc3 => k_is)
    (case gc4 => k_is)
    (case gc5 => k_is)
    (case xq0 => first | k_is | rfl | kernel_rfl)
    (case xq1 => first | k_is | rfl | kernel_rfl)
    (case xq2 => first | k_is | rfl | kernel_rfl)
    (case xq3 => first | k_is | rfl | kernel_rfl)
    (case xq4 => first | k_is | rfl | kernel_rfl)
    (case xq5 => first | k_is | rfl | kernel_rfl)
    (case xq6 => first | k_is | rfl | kernel_rfl)
    (case xq7 => first | k_is | rfl | kernel_rfl)
    (case xq8 => first | k_is | rfl | kernel_rfl)
    (case xq9 => first | k_is | rfl | kernel_rfl)
    (case xq10 => first | k_is | rfl | kernel_rfl)
    (case xq11 => first | k_is | rfl | kernel_rfl)
    (case xq12 => first | k_is | rfl | kernel_rfl)
    (case xq13 => first | k_is | rfl | kernel_rfl)
    (case xq14 => first | k_is | rfl | kernel_rfl)
    (case xq15 => first | k_is | rfl | kernel_rfl)
    (case xq16 => first | k_is | rfl | kernel_rfl)
    (case xq17 => first | k_is | rfl | kernel_rfl)
    (case xq18 => first | k_is | rfl | kernel_rfl)
    (case xq19 => first | k_is | rfl | kernel_rfl)
    (case xq20 => first | k_is | rfl | kernel_rfl)
    (case xq21 => first | k_is | rfl | kernel_rfl)
    (case xq22 => first | k_is | rfl | kernel_rfl)
    (case xq23 => first | k_is | rfl | kernel_rfl)
    (case xq24 => first | k_is | rfl | kernel_rfl)
    (case xq25 => first | k_is | rfl | kernel_rfl)
    (case xq26 => first | k_is | rfl | kernel_rfl)
    (case xq27 => first | k_is | rfl | kernel_rfl)
    (case xq28 => first | k_is | rfl | kernel_rfl)
    (case xq29 => first | k_is | rfl | kernel_rfl)
    (case xq30 => first | k_is | rfl | kernel_rfl)
    (case xq31 => first | k_is | rfl | kernel_rfl)
    (case xq32 => first | k_is | rfl | kernel_rfl)
    (case xq33 => first | k_is | rfl | kernel_rfl)
    (case xq34 => first | k_is | rfl | kernel_rfl)
    (case xq35 => first | k_is | rfl | kernel_rfl)
    (case xq36 => first | k_is | rfl | kernel_rfl)
    (case xq37 => first | k_is | rfl | kernel_rfl)
    (case xq38 => first | k_is | rfl | kernel_rfl)
    (case xq39 => first | k_is | rfl | kernel_rfl)
    (case xq40 => first | k_is | rfl | kernel_rfl)
    (case xq41 => first | k_is | rfl | kernel_rfl)
    (case xq42 => first | k_is | rfl | kernel_rfl)
    (case xq43 => first | k_is | rfl | kernel_rfl)
    (case xq44 => first | k_is | rfl | kernel_rfl)
    (case xq45 => first | k_is | rfl | kernel_rfl)
    (case xq46 => first | k_is | rfl | kernel_rfl)
    (case xq47 => first | k_is | rfl | kernel_rfl)
    (case xq48 => first | k_is | rfl | kernel_rfl)
    (case xq49 => first | k_is | rfl | kernel_rfl)
    (case xq50 => first | k_is | rfl | kernel_rfl)
    (case xq51 => first | k_is | rfl | kernel_rfl)
    (case xq52 => first | k_is | rfl | kernel_rfl)
    (case xq53 => first | k_is | rfl | kernel_rfl)
    (case xq54 => first | k_is | rfl | kernel_rfl)
    (case xq55 => first | k_is | rfl | kernel_rfl)
    (case xq56 => first | k_is | rfl | kernel_rfl)
