import PyProof.Rows.All
import Wide.All
import OpenK.AllK
import Wide.FinOn
import Lean
import PyProof.EqAt
import PyProof.EqKinds
import PyProof.TupleCall
import PySem.Challenge.RW_earlyscribe_k84_rooms_above_eight
set_option maxHeartbeats 4000000
set_option Elab.async false
set_option linter.all false
set_option maxRecDepth 100000
/-! THE HAND LAYER, for ints, bools, texts, own classes, LISTS and tuples (index, slices, in, append, pop ..), calls, loops. Paste it whole ahead of your own text; what your proof does not reach may be deleted. -/
namespace L2
open PySem PySem.Spec PyProof.Rows

abbrev Key := Sum Int Str
def keyIs : Key → Value → Bool
  | .inl k, v => Value.isInt k v
  | .inr x, v => Value.isStrOf x v
def keyH (w : World) : Key → Int
  | .inl k => hashInt k
  | .inr x => hashStr w x
theorem keyIs_shape : ∀ {k : Key} {v : Value}, keyIs k v = true → (∃ i t, k = Sum.inl i ∧ v = Value.int i t) ∨ (∃ x t, k = Sum.inr x ∧ v = Value.str x t)
  | .inl i, v, h => by
    obtain ⟨t, e⟩ := Value.isInt_shape (k := i) (v := v) h
    exact .inl ⟨i, t, rfl, e⟩
  | .inr x, v, h => by
    obtain ⟨t, e⟩ := Value.isStrOf_shape (x := x) (v := v) h
    exact .inr ⟨x, t, rfl, e⟩
theorem key_ll (a b : Int) : decide ((Sum.inl a : Key) = Sum.inl b) = (a == b) := by
  by_cases e : a = b
  · subst e; simp
  · have h : ¬ (Sum.inl a : Key) = Sum.inl b := fun q => e (Sum.inl.inj q)
    rw [decide_eq_false h]
    exact (beq_eq_false_iff_ne.mpr e).symm
theorem key_rr (a b : Str) : decide ((Sum.inr a : Key) = Sum.inr b) = decide (a = b) := by
  by_cases e : a = b
  · subst e; simp
  · have h : ¬ (Sum.inr a : Key) = Sum.inr b := fun q => e (Sum.inr.inj q)
    rw [decide_eq_false h, decide_eq_false e]
theorem key_lr (a : Int) (b : Str) : decide ((Sum.inl a : Key) = Sum.inr b) = false := decide_eq_false (fun q => nomatch q)
theorem key_rl (a : Str) (b : Int) : decide ((Sum.inr a : Key) = Sum.inl b) = false := decide_eq_false (fun q => nomatch q)

def mixKind (prog : Program) (w : World) : PySem.KeyKind prog w Key where
  is := keyIs
  hash := keyH w
  inj := fun v a b ha hb => by
    rcases keyIs_shape ha with ⟨i, t, rfl, rfl⟩ | ⟨x, t, rfl, rfl⟩
    · rcases keyIs_shape hb with ⟨j, u, rfl, e⟩ | ⟨y, u, rfl, e⟩
      · injection e with e1 _; rw [e1]
      · exact nomatch e
    · rcases keyIs_shape hb with ⟨j, u, rfl, e⟩ | ⟨y, u, rfl, e⟩
      · exact nomatch e
      · injection e with e1 _; rw [e1]
  byValue := fun k v h => by
    rcases keyIs_shape h with ⟨i, t, rfl, rfl⟩ | ⟨x, t, rfl, rfl⟩ <;> rfl
  pyHash := fun hv h => by
    rcases keyIs_shape hv with ⟨i, t, rfl, rfl⟩ | ⟨x, t, rfl, rfl⟩
    · exact wpAny_pyHash_int h
    · exact wpAny_pyHash_str h
  eqBool := fun hu hv h => by
    rcases keyIs_shape hu with ⟨i, t, rfl, rfl⟩ | ⟨x, t, rfl, rfl⟩
    · rcases keyIs_shape hv with ⟨j, u, rfl, rfl⟩ | ⟨y, u, rfl, rfl⟩
      · rw [key_ll] at h; exact wpAny_eqBool_int h
      · rw [key_lr] at h; exact SeqAt.EqAt.int_str i t y u _ _ _ _ h
    · rcases keyIs_shape hv with ⟨j, u, rfl, rfl⟩ | ⟨y, u, rfl, rfl⟩
      · rw [key_rl] at h; exact SeqAt.EqAt.str_int x t j u _ _ _ _ h
      · rw [key_rr] at h; exact wpAny_eqBool_str h
  «strs» := fun k x t v h => by
    rcases keyIs_shape h with ⟨i, u, rfl, e⟩ | ⟨y, u, rfl, e⟩
    · exact nomatch e
    · injection e with e1 _
      subst e1
      cases v <;> rfl

end L2

namespace L2
open PySem PySem.Spec PyProof.Rows

inductive V where
  | non | bl (b : Bool) | int (i : Int) | str (x : Str) | byt (b : Array UInt8) | flt (b : UInt64) | ref (a : Addr) | ty (n : String)
  deriving DecidableEq

def RelV : V → Value → Prop
  | .non, u => u = Value.none
  | .bl b, u => u = Value.bool b
  | .int i, u => ∃ t, u = Value.int i t
  | .str x, u => ∃ t, u = Value.str x t
  | .byt b, u => ∃ t, u = Value.bytes b t
  | .flt b, u => ∃ t, u = Value.float b t
  | .ref a, u => u = Value.ref a
  | .ty n, u => u = Value.type n

abbrev Vals : List V → List Value → Prop := Paired RelV
theorem Vals.length {xs : List V} {us : List Value} (r : Vals xs us) : xs.length = us.length := Paired.length r
theorem Vals.get : ∀ {xs : List V} {us : List Value} {i : Nat} {x : V}, Vals xs us → xs[i]? = some x → ∃ u, us[i]? = some u ∧ RelV x u
  | _, _, _, _, .nil, e => by simp at e
  | _, _, 0, _, .cons r _, e => by simp at e; subst e; exact ⟨_, rfl, r⟩
  | _, _, i + 1, x, .cons _ t, e => by
    obtain ⟨u, h1, h2⟩ := Vals.get (i := i) (x := x) t (by simpa using e)
    exact ⟨u, by simpa using h1, h2⟩
theorem Vals.append : ∀ {xs ys : List V} {us ws : List Value}, Vals xs us → Vals ys ws → Vals (xs ++ ys) (us ++ ws)
  | _, _, _, _, .nil, s => s
  | _, _, _, _, .cons r t, s => .cons r (Vals.append t s)
def RelO : Option V → Option Value → Prop
  | some v, some u => RelV v u
  | none, none => True
  | _, _ => False
def KV {κ : Type} : List (κ × V) → List (κ × Value) → Prop := Paired fun (p : κ × V) (q : κ × Value) => p.1 = q.1 ∧ RelV p.2 q.2

def kV : Key → V
  | .inl i => .int i
  | .inr x => .str x

inductive HO where
  /-- a list -/
  | lst (xs : List V)
  /-- a tuple (never changes) -/
  | tup (xs : List V)
  /-- a dict whose keys are ints and texts; one whose keys are tuples of ints and texts (the empty one is both) -/
  | dK (kvs : List (Key × V)) | dT (kvs : List (List Key × V))
  /-- a set of ints: its members, its size -/
  | set (S : Int → Bool) (n : Nat)
  /-- an instance of the class at C, its dict at dx, its attributes -/
  | ins (C dx : Addr) (fs : List (Str × V))
  /-- the dict of the instance at x -/
  | own (x : Addr)
  /-- the dict of an exception -/
  | xd (fs : List (Str × V))
  /-- a bound method, f of x -/
  | met (f x : Addr)
  /-- a range object lo, lo + 1, .. below hi -/
  | rng (lo hi : Int)
  /-- a thing that is known to the object (the script; a dict while a loop walks it): read, never written while it is so -/
  | frz (o : Obj) (u : HO)
  /-- a code object's table -/
  | tbl (ps : Array Value)
  /-- any other thing, by what is true of its one object (a def of one's own: SetO a S n := HO.ext fun h => ..) -/
  | ext (φ : Heap → Prop)

abbrev Hp := Addr → Option HO
def upd (H : Hp) (a : Addr) (o : HO) : Hp := fun b => if b = a then some o else H b
theorem upd_same {H : Hp} {a : Addr} {o : HO} : upd H a o a = some o := by unfold upd; rw [if_pos rfl]
theorem upd_ne {H : Hp} {a b : Addr} {o : HO} (h : b ≠ a) : upd H a o b = H b := by unfold upd; rw [if_neg h]
theorem ne_of_none {H : Hp} {a b : Addr} {o : HO} (h : H a = some o) (h' : H b = none) : a ≠ b := by
  intro e; subst e; rw [h] at h'; cases h'

section
variable (P : Program) (w : World)
def ObjOk (H : Hp) (h : Heap) (a : Addr) : HO → Prop
  | .lst xs => xs.length ≤ sizeLine ∧ ∃ (its : List Value) (n : Nat), Vals xs its ∧ h.get? a = some { cls := .type "list", data := .seq its.toArray n }
  | .tup xs => xs.length ≤ sizeLine ∧ ∃ its : List Value, Vals xs its ∧ IsTup h a its.toArray
  | .dK kvs => kvs.length ≤ sizeLine ∧ (a == sysModules) = false ∧ ∃ vs, KV kvs vs ∧ h.DictOf (mixKind P w) a vs
  | .dT kvs => kvs.length ≤ sizeLine ∧ (a == sysModules) = false ∧ ∃ xs : List (List Key × Addr × Value),
      Paired (fun (p : List Key × V) (q : List Key × Addr × Value) => p.1 = q.1 ∧ H q.2.1 = some (.tup (p.1.map kV)) ∧ RelV p.2 q.2.2) kvs xs ∧
      ∃ o es ep, h.get? a = some o ∧ o.ExactDict ∧ o.data = .dict es ep ∧ es.toList = xs.map (entryOfKey (tupleKind (mixKind P w))) ∧ (xs.map (·.1)).Nodup
  | .set S n => h.SetOf (intKind P w) a S n
  | .ins C dx fs => H dx = some (.own a) ∧ fs.length ≤ 1000 ∧ dx ≠ a ∧ h.get? a = some (PySem.W.instObj C dx) ∧
      ∃ mA, h.Ns1 dx mA ∧ (∀ f, RelO (fs.lookup f) (mA f)) ∧ PySem.Within mA (fs.map (·.1))
  | .own _ => ∃ o, h.get? a = some o
  | .xd fs => ∃ mA, h.Ns1 a mA ∧ ∀ f, RelO (fs.lookup f) (mA f)
  | .rng lo hi => ∃ t u v, h.get? a = some { cls := .type "range", data := .fields #[.int lo t, .int hi u, .int 1 v] }
  | .frz o u => h.get? a = some o ∧ ObjOk H h a u
  | .tbl ps => h.get? a = some { cls := .none, data := .fields ps }
  | .met f x => h.get? a = some (PySem.W.methodObj (.ref f) (.ref x))
  | .ext φ => φ h ∧ (∃ o, h.get? a = some o) ∧ ∀ h1 h2 : Heap, φ h1 → (∀ o, h1.get? a = some o → h2.get? a = some o) → φ h2
def HOk (H : Hp) (h : Heap) : Prop := ∀ a o, H a = some o → ObjOk P w H h a o
end

section
variable {P : Program} {w : World} {H H' : Hp} {h h' : Heap} {a : Addr} {o : HO}
theorem ObjOk.lt (x : ObjOk P w H h a o) : a < h.objs.size := by
  cases o with
  | lst xs => obtain ⟨_, _, _, _, e⟩ := x; exact Heap.lt_size e
  | tup xs => obtain ⟨_, _, _, p⟩ := x; exact p.lt
  | dK kvs => obtain ⟨_, _, _, _, o, _, _, e, _⟩ := x; exact Heap.lt_size e
  | dT kvs => obtain ⟨_, _, _, _, o, _, _, e, _⟩ := x; exact Heap.lt_size e
  | set S n => obtain ⟨o, _, _, _, e, _⟩ := x; exact Heap.lt_size e
  | ins C dx fs => obtain ⟨_, _, _, e, _⟩ := x; exact Heap.lt_size e
  | own y => obtain ⟨_, e⟩ := x; exact Heap.lt_size e
  | xd fs => obtain ⟨_, ⟨_, _, _, e, _⟩, _⟩ := x; exact Heap.lt_size e
  | rng lo hi => obtain ⟨_, _, _, e⟩ := x; exact Heap.lt_size e
  | frz ob u => obtain ⟨e, _⟩ := x; exact Heap.lt_size e
  | tbl ps => exact Heap.lt_size (show h.get? a = some _ from x)
  | met f y => exact Heap.lt_size (show h.get? a = some _ from x)
  | ext φ => obtain ⟨_, ⟨_, e⟩, _⟩ := x; exact Heap.lt_size e
theorem Paired.mapP {α β : Type} {F G : α → β → Prop} : ∀ {l₁ : List α} {l₂ : List β}, Paired F l₁ l₂ → (∀ a b, F a b → G a b) → Paired G l₁ l₂
  | _, _, .nil, _ => .nil
  | _, _, .cons r t, f => .cons (f _ _ r) (Paired.mapP t f)
theorem ObjOk.stay (x : ObjOk P w H h a o) (k : ∀ b u, (b = a ∨ H b = some (.own a)) → h.get? b = some u → h'.get? b = some u)
    (ho : ∀ b, H b = some (.own a) → H' b = some (.own a)) (ht : ∀ b xs, H b = some (.tup xs) → H' b = some (.tup xs)) : ObjOk P w H' h' a o := by
  induction o with
  | lst xs => obtain ⟨z, its, n, r, e⟩ := x; exact ⟨z, its, n, r, k _ _ (.inl rfl) e⟩
  | tup xs => obtain ⟨z, its, r, ob, e, c⟩ := x; exact ⟨z, its, r, ob, k _ _ (.inl rfl) e, c⟩
  | dK kvs => obtain ⟨z, y, vs, r, ob, es, ep, e, c⟩ := x; exact ⟨z, y, vs, r, ob, es, ep, k _ _ (.inl rfl) e, c⟩
  | dT kvs =>
    obtain ⟨z, y, xs, r, ob, es, ep, e, c⟩ := x
    exact ⟨z, y, xs, Paired.mapP r fun p q z => ⟨z.1, ht _ _ z.2.1, z.2.2⟩, ob, es, ep, k _ _ (.inl rfl) e, c⟩
  | set S n => obtain ⟨ob, es, ep, t, e, c⟩ := x; exact ⟨ob, es, ep, t, k _ _ (.inl rfl) e, c⟩
  | ins C dx fs =>
    obtain ⟨d, z, ne, e, mA, ⟨od, es, ep, e2, c⟩, r⟩ := x
    exact ⟨ho _ d, z, ne, k _ _ (.inl rfl) e, mA, ⟨od, es, ep, k _ _ (.inr d) e2, c⟩, r⟩
  | own y => obtain ⟨ob, e⟩ := x; exact ⟨ob, k _ _ (.inl rfl) e⟩
  | xd fs => obtain ⟨mA, ⟨od, es, ep, e, c⟩, r⟩ := x; exact ⟨mA, ⟨od, es, ep, k _ _ (.inl rfl) e, c⟩, r⟩
  | rng lo hi => obtain ⟨t, u, v, e⟩ := x; exact ⟨t, u, v, k _ _ (.inl rfl) e⟩
  | frz ob u ih => obtain ⟨e, q⟩ := x; exact ⟨k _ _ (.inl rfl) e, ih q⟩
  | tbl ps =>
    have e : h.get? a = some { cls := .none, data := .fields ps } := x
    show h'.get? a = some { cls := .none, data := .fields ps }
    exact k a _ (.inl rfl) e
  | met f y =>
    have e : h.get? a = some (PySem.W.methodObj (.ref f) (.ref y)) := x
    show h'.get? a = some (PySem.W.methodObj (.ref f) (.ref y))
    exact k a _ (.inl rfl) e
  | ext φ => obtain ⟨p, ⟨o, e⟩, st⟩ := x; exact ⟨st _ _ p fun o q => k _ _ (.inl rfl) q, ⟨o, k _ _ (.inl rfl) e⟩, st⟩
theorem HOk.lt (x : HOk P w H h) (e : H a = some o) : a < h.objs.size := (x a o e).lt
theorem HOk.fresh (x : HOk P w H h) (e : h.objs.size ≤ a) : H a = none := by
  cases q : H a with
  | none => rfl
  | some u => exact absurd (Nat.lt_of_lt_of_le (x.lt q) e) (Nat.lt_irrefl _)
theorem HOk.kept (x : HOk P w H h) (k : ∀ b u, h.get? b = some u → h'.get? b = some u) : HOk P w H h' := fun a o e =>
  (x a o e).stay (fun b u _ q => k b u q) (fun _ q => q) fun _ _ q => q
theorem HOk.laid (x : HOk P w H h) (k : ∀ b u, h.get? b = some u → h'.get? b = some u) (hp : h.objs.size ≤ a) (new : ObjOk P w (upd H a o) h' a o) : HOk P w (upd H a o) h' := fun b u e => by
  have hn := x.fresh hp
  by_cases hb : b = a
  · subst hb; rw [upd_same] at e; cases e; exact new
  · rw [upd_ne hb] at e
    exact (x b u e).stay (fun c v _ q => k c v q) (fun c q => by rw [upd_ne (ne_of_none q hn)]; exact q) fun c xs q => by rw [upd_ne (ne_of_none q hn)]; exact q
end

def Rd (H : Hp) (a : Addr) (u : HO) : Prop := H a = some u ∨ ∃ o, H a = some (.frz o u)
theorem Rd.ok {P : Program} {w : World} {H : Hp} {h : Heap} {a : Addr} {u : HO} (r : Rd H a u) (x : HOk P w H h) : ObjOk P w H h a u := by
  rcases r with r | ⟨o, r⟩
  · exact x a u r
  · obtain ⟨_, q⟩ := x a _ r
    exact q
def Mut : Option HO → Prop
  | some (.lst _) => True
  | some (.dK _) => True
  | some (.dT _) => True
  | some (.set _ _) => True
  | some (.ins _ _ _) => True
  | some (.ext _) => True
  | _ => False
section
variable {P : Program} {w : World} {H : Hp} {h h' : Heap} {x e : Addr} {o' : HO}
theorem HOk.write (ok : HOk P w H h) (mu : Mut (H x)) (he : e = x ∨ H e = some (.own x)) (k : ∀ b u, b ≠ e → h.get? b = some u → h'.get? b = some u) (heo : ∃ u, h'.get? e = some u)
    (new : ObjOk P w (upd H x o') h' x o') : HOk P w (upd H x o') h' := fun b u q => by
  have nown : ∀ c y, H c = some (.own y) → c ≠ x := fun c y r z => by subst z; rw [r] at mu; exact mu
  have ntup : ∀ c xs, H c = some (.tup xs) → c ≠ x := fun c xs r z => by subst z; rw [r] at mu; exact mu
  by_cases hb : b = x
  · subst hb; rw [upd_same] at q; cases q; exact new
  · rw [upd_ne hb] at q
    by_cases hbe : b = e
    · have q' : H b = some (.own x) := by
        rcases he with z | z
        · exact absurd (hbe.trans z) hb
        · rw [hbe]; exact z
      rw [q] at q'; cases q'
      obtain ⟨v, hv⟩ := heo
      exact ⟨v, by rw [hbe]; exact hv⟩
    · refine (ok b u q).stay (fun c v hc r => k c v ?_ r) (fun c r => by rw [upd_ne (nown c b r)]; exact r) fun c xs r => by rw [upd_ne (ntup c xs r)]; exact r
      rcases hc with rfl | hc
      · exact hbe
      · rintro rfl
        rcases he with z | z
        · exact nown c b hc z
        · rw [hc] at z; cases z; exact hb rfl
end

/-! ### kept unless tracked; of the frames at fs (the callers') the slots may change (an exception that passes writes there); of the records at ex (iterators) nothing is said -/
structure Un (fs ex : List Addr) (H H' : Hp) (h h' : Heap) : Prop where
  keep : ∀ b o, h.get? b = some o → H b = none → b ∉ fs → b ∉ ex → h'.get? b = some o
  slot : ∀ b o, h.get? b = some o → H b = none → b ∈ fs → b ∉ ex → ∃ sl, h'.get? b = some { o with slots := sl }
  free : ∀ b o, h.get? b = some o → H b = none → b ∉ ex → H' b = none
  there : ∀ b o, h.get? b = some o → b ∉ ex → ∃ o', h'.get? b = some o'
  tups : ∀ b xs, H b = some (.tup xs) → H' b = some (.tup xs)
  frzs : ∀ b o u, H b = some (.frz o u) → H' b = some (.frz o u)
  tbls : ∀ b ps, H b = some (.tbl ps) → ∃ more, H' b = some (.tbl (ps ++ more))
section
variable {fs fs' ex ex' : List Addr} {H H1 H2 : Hp} {h h1 h2 h' : Heap} {a x e : Addr} {o : HO}
theorem Un.any (u : Un fs ex H H1 h h1) {b : Addr} {ob : Obj} (q : h.get? b = some ob) (n : H b = none) (hx : b ∉ ex) : ∃ sl, h1.get? b = some { ob with slots := sl } := by
  by_cases hb : b ∈ fs
  · exact u.slot b ob q n hb hx
  · exact ⟨ob.slots, u.keep b ob q n hb hx⟩
theorem Un.kept (k : ∀ b u, h.get? b = some u → h'.get? b = some u) : Un fs ex H H h h' :=
  ⟨fun b ob q _ _ _ => k b ob q, fun b ob q _ _ _ => ⟨ob.slots, k b ob q⟩, fun _ _ _ n _ => n, fun b ob q _ => ⟨ob, k b ob q⟩, fun _ _ q => q, fun _ _ _ q => q, fun _ ps q => ⟨#[], by rw [q]; simp⟩⟩
theorem Un.refl : Un fs ex H H h h := Un.kept fun _ _ q => q
theorem Un.laid (k : ∀ b u, h.get? b = some u → h'.get? b = some u) (hp : h.objs.size ≤ a) (hn : H a = none) : Un fs ex H (upd H a o) h h' where
  keep := fun b u q _ _ _ => k b u q
  slot := fun b u q _ _ _ => ⟨u.slots, k b u q⟩
  free := fun b u q n _ => by rw [upd_ne (Nat.ne_of_lt (Nat.lt_of_lt_of_le (Heap.lt_size q) hp))]; exact n
  there := fun b u q _ => ⟨u, k b u q⟩
  tups := fun b xs q => by rw [upd_ne (ne_of_none q hn)]; exact q
  frzs := fun b u xs q => by rw [upd_ne (ne_of_none q hn)]; exact q
  tbls := fun b ps q => ⟨#[], by rw [upd_ne (ne_of_none q hn), q]; simp⟩
theorem Un.write (mu : Mut (H x)) (he : e = x ∨ H e = some (.own x)) (k : ∀ b u, b ≠ e → h.get? b = some u → h'.get? b = some u) (heo : ∃ u, h'.get? e = some u) : Un fs ex H (upd H x o) h h' := by
  have hx : ∀ b, H b = none → b ≠ x := fun b n z => by subst z; rw [n] at mu; exact mu
  have hb : ∀ b, H b = none → b ≠ e := fun b n z => by
    subst z
    rcases he with r | r
    · exact hx b n r
    · rw [n] at r; cases r
  have hm : ∀ b u, H b = some u → ¬ Mut (some u) → b ≠ x := fun b u q nm z => by subst z; rw [q] at mu; exact nm mu
  refine ⟨fun b u q n _ _ => k b u (hb b n) q, fun b u q n _ _ => ⟨u.slots, k b u (hb b n) q⟩, fun b u q n _ => by rw [upd_ne (hx b n)]; exact n, fun b u q _ => ?_,
    fun b xs q => by rw [upd_ne (hm b _ q fun z => z)]; exact q, fun b u xs q => by rw [upd_ne (hm b _ q fun z => z)]; exact q, fun b ps q => ⟨#[], by rw [upd_ne (hm b _ q fun z => z), q]; simp⟩⟩
  by_cases hbe : b = e
  · subst hbe; exact heo
  · exact ⟨u, k b u hbe q⟩
end

/-! ### the heap without what is tracked -/
def trk (h : Heap) (H : Hp) : List Addr := (List.range h.objs.size).filter fun a => (H a).isSome
def hidT (h : Heap) (H : Hp) : Heap := PySem.W.hideAll h (trk h H)
theorem hidT_size (h : Heap) (H : Hp) : (hidT h H).objs.size = h.objs.size := PySem.W.hideAll_size _ _
theorem hidT_get {h : Heap} {H : Hp} {b : Addr} {o : Obj} (e : h.get? b = some o) (n : H b = none) : (hidT h H).get? b = some o :=
  PySem.W.hideAll_get _ e fun hm => by
    have q : (H b).isSome = true := (List.mem_filter.mp hm).2
    rw [n] at q; simp at q
theorem of_hidT {h : Heap} {H : Hp} {b : Addr} {o : Obj} (e : (hidT h H).get? b = some o) : h.get? b = some o ∧ H b = none := by
  have e' : h.get? b = some o := PySem.W.of_hideAll (trk h H) e
  refine ⟨e', ?_⟩
  cases q : H b with
  | none => rfl
  | some x =>
    have hm : b ∈ trk h H := List.mem_filter.mpr ⟨List.mem_range.mpr (Heap.lt_size e'), by simp [q]⟩
    have z : (hidT h H).get? b = none := PySem.W.hideAll_none (trk h H) hm
    rw [z] at e; cases e

/-! ### OpenK's ledger, filled with every new object but one -/
def allNews (g h : Heap) (L : Addr) : List (Addr × Obj) := (List.range h.objs.size).filterMap fun a => if a = L ∨ (g.get? a).isSome = true then none else (h.get? a).map fun o => (a, o)
def rest (g h : Heap) (L d : Addr) : List (Addr × Obj) := (allNews g h L).filter fun p => decide (p.1 ≠ d)
end L2

namespace L2
open PySem PySem.Spec PyProof.Rows

structure Mod (K : PySem.W.Frag) (mg : Str → Option Value) (base : Heap) : Prop where
  kin : K.In base
  glob : base.Ns mainGlobals mg
  blt : ∃ mb, base.Ns builtinsNs mb ∧ ∀ x : Str, x ≠ "__name__" → mb x = bootBuiltins x
  nolimit : base.NoLimit

/-- the context: a def's body (or a comprehension's block) running. base: fixed through the whole law; s₀, H₀: the entry; outer: the frames whose slots others may change (a def's callers); stack: all frames that run;
   ex: iterators that were made ahead of the entry and are walked here (a comprehension's); fn: the names whose cells were made at the entry (a def: all; a comprehension's block: its own); calm: not within an except suite; pn: pins that every state bears; xe: what is wanted of an exception that leaves the code -/
structure Cx where
  prog : Program
  w : World
  K : PySem.W.Frag
  mg : Str → Option Value
  base : Heap
  A : Around
  N : List Str
  s₀ : Shared
  H₀ : Hp
  env : Env
  outer : List Env
  stack : List Env
  ex : List Addr
  fn : Str → Bool
  calm : Bool
  pn : List (Addr × Obj)
  xe : Value → Shared → Prop
def frs (l : List Env) : List Addr := l.filterMap (·.frame)
abbrev Cx.fs (X : Cx) : List Addr := frs X.outer

def Vis (sc : Scope) (x : Str) : Prop := sc.names.lookup x = some .local ∨ sc.names.lookup x = some .cell ∨ sc.names.lookup x = some .free
def Loc (sc : Scope) (x : Str) : Prop := sc.names.lookup x = some .local ∨ sc.names.lookup x = some .cell
def Look (env : Env) (h : Heap) (m : Str → Option Value) (x : Str) (u : Value) : Prop :=
  (env.kindOf x = some .local ∧ m x = some u) ∨ ((env.kindOf x = some .cell ∨ env.kindOf x = some .free) ∧ ∃ c, env.cells.lookup x = some c ∧ h.IsCell c (some u))

structure Cx.Ok (X : Cx) : Prop where
  mod : Mod X.K X.mg X.base
  kind : X.env.scope.kind = .function
  glob : X.env.globals = mainGlobals
  blt : X.env.builtins = builtinsNs
  above : X.s₀.heap.objs.size ≤ X.env.locals
  inj : ∀ x y c, X.env.cells.lookup x = some c → X.env.cells.lookup y = some c → x = y
  has : ∀ x, (X.env.kindOf x = some .cell ∨ X.env.kindOf x = some .free) → ∃ c, X.env.cells.lookup x = some c
  cab : ∀ x c, X.fn x = true → X.env.cells.lookup x = some c → X.s₀.heap.objs.size ≤ c
  hd : X.calm = true → X.A.handled = none
  frames : X.A.frames = some X.stack
  stk : X.stack = X.outer ∨ (X.stack = X.env :: X.outer ∧ X.env.frame = some X.env.locals)
  exf : ∀ b ∈ X.ex, b ≠ X.env.locals ∧ ∀ x c, X.env.cells.lookup x = some c → c ≠ b
  bs : ∀ b o, X.base.get? b = some o → X.s₀.heap.get? b = some o ∧ X.H₀ b = none
  bsz : X.base.objs.size ≤ X.s₀.heap.objs.size
  noex : ∀ b o, X.base.get? b = some o → b ∉ X.ex
  exfs : ∀ b ∈ X.ex, b ∉ X.fs
  funs : X.s₀.heap.FunFrames X.base X.outer
  frf : ∀ b ∈ X.fs, X.H₀ b = none

structure Inv (X : Cx) (pins : List (Addr × Obj)) (σ : List (Option V)) (H : Hp) (s : Shared) : Prop where
  ok : X.Ok
  os : s.os = X.s₀.os
  bare : AllBare s.gens
  base : Un X.fs X.ex X.H₀ H X.s₀.heap s.heap
  loc : ∃ m, s.heap.Ns X.env.locals m ∧ ∀ (i : Nat) (x : Str) (v : V), X.N[i]? = some x → σ[i]? = some (some v) → Vis X.env.scope x → ∃ u, RelV v u ∧ Look X.env s.heap m x u
  cell : ∀ x c, X.env.cells.lookup x = some c → ∃ v, s.heap.IsCell c v
  free : H X.env.locals = none
  freeC : ∀ x c, X.env.cells.lookup x = some c → H c = none
  pin : ∀ p ∈ X.pn ++ pins, s.heap.get? p.1 = some p.2 ∧ H p.1 = none ∧ p.1 ≠ X.env.locals ∧ p.1 ∉ X.fs ∧ ∀ v, p.2.data ≠ .cell v
  hok : HOk X.prog X.w H s.heap
  len : σ.length = X.N.length

section
variable {X : Cx} {pins : List (Addr × Obj)} {σ : List (Option V)} {H H' : Hp} {s : Shared} {h' : Heap}

theorem Cx.Ok.nofr (ok : X.Ok) {b : Addr} {o : Obj} (e : X.base.get? b = some o) : b ∉ X.fs := fun hb => by
  have := (ok.funs.mem hb).1
  rw [e] at this; cases this
theorem Inv.bs (I : Inv X pins σ H s) : ∀ b o, X.base.get? b = some o → s.heap.get? b = some o ∧ H b = none := fun b o e =>
  ⟨I.base.keep b o (I.ok.bs b o e).1 (I.ok.bs b o e).2 (I.ok.nofr e) (I.ok.noex b o e), I.base.free b o (I.ok.bs b o e).1 (I.ok.bs b o e).2 (I.ok.noex b o e)⟩
theorem Inv.bk (I : Inv X pins σ H s) : ∀ b o, X.base.get? b = some o → s.heap.get? b = some o := fun b o e => (I.bs b o e).1
theorem Inv.mod (I : Inv X pins σ H s) : Mod X.K X.mg X.base := I.ok.mod
theorem Inv.kIn (I : Inv X pins σ H s) : X.K.In s.heap := I.ok.mod.kin.keeps I.bk
theorem Inv.lt (I : Inv X pins σ H s) : X.env.locals < s.heap.objs.size := let ⟨_, hn, _⟩ := I.loc; hn.lt
theorem Inv.sz (I : Inv X pins σ H s) : X.s₀.heap.objs.size ≤ s.heap.objs.size := Nat.le_trans I.ok.above (Nat.le_of_lt I.lt)
theorem Inv.nofs (I : Inv X pins σ H s) {a : Addr} (h : s.heap.objs.size ≤ a) : a ∉ X.fs := fun hb => by
  obtain ⟨_, o, ho, _⟩ := I.ok.funs.mem hb
  exact absurd (Nat.lt_of_lt_of_le (Heap.lt_size ho) (Nat.le_trans I.sz h)) (Nat.lt_irrefl _)
theorem Inv.cne (I : Inv X pins σ H s) : ∀ x c, X.env.cells.lookup x = some c → c ≠ X.env.locals := fun x c e z => by
  obtain ⟨v, o, ho, hd⟩ := I.cell x c e
  obtain ⟨m, ⟨o', es, ep, ho', hd', _⟩, _⟩ := I.loc
  rw [z, ho'] at ho; cases ho; rw [hd'] at hd; cases hd
theorem Inv.funs (I : Inv X pins σ H s) : s.heap.FunFrames X.base X.outer := by
  have all : ∀ (l : List Env), (∀ b ∈ frs l, b ∈ X.fs) → X.s₀.heap.FunFrames X.base l → s.heap.FunFrames X.base l := by
    intro l
    induction l with
    | nil => intro _ _; trivial
    | cons env r ih =>
      intro hs hl
      obtain ⟨hk, ⟨L, o, hf, hn, ho, hd⟩, hr⟩ := hl
      have hL : L ∈ X.fs := hs L (by unfold frs; rw [List.filterMap_cons, hf]; exact List.mem_cons_self)
      obtain ⟨sl, e⟩ := I.base.slot L o ho (I.ok.frf L hL) hL fun z => I.ok.exfs L z hL
      exact ⟨hk, ⟨L, _, hf, hn, e, hd⟩, ih (fun b hb => hs b (by unfold frs; rw [List.filterMap_cons, hf]; exact List.mem_cons_of_mem _ hb)) hr⟩
  exact all X.outer (fun _ hb => hb) I.ok.funs

theorem Inv.stack (I : Inv X pins σ H s) : s.heap.FunFrames X.base X.stack := by
  rcases I.ok.stk with e | ⟨e, hf⟩
  · rw [e]; exact I.funs
  · rw [e]
    obtain ⟨m, hn, _⟩ := I.loc
    refine .cons (by rw [I.ok.kind]; decide) hf hn ?_ I.funs
    exact Heap.get?_none_of_le (Nat.le_trans I.ok.bsz I.ok.above)
theorem Inv.stkSub (I : Inv X pins σ H s) : ∀ b ∈ frs X.stack, b ∈ X.env.locals :: X.fs := fun b hb => by
  rcases I.ok.stk with e | ⟨e, hf⟩
  · rw [e] at hb; exact List.mem_cons_of_mem _ hb
  · rw [e] at hb
    unfold frs at hb
    rw [List.filterMap_cons, hf] at hb
    exact hb
theorem Inv.stkFree (I : Inv X pins σ H s) : ∀ b ∈ frs X.stack, H b = none := fun b hb => by
  rcases List.mem_cons.mp (I.stkSub b hb) with e | hb
  · rw [e]; exact I.free
  · obtain ⟨_, o, ho, _⟩ := I.ok.funs.mem hb
    exact I.base.free b o ho (I.ok.frf b hb) fun z => I.ok.exfs b z hb

theorem Inv.step {g' : Array GenState} {t' : Nat} {d' : Drawn} {ch : List Addr} (I : Inv X pins σ H s)
    (hch : ∀ b ∈ ch, (b ∈ X.ex ∨ X.s₀.heap.objs.size ≤ b) ∧ b ≠ X.env.locals ∧ (∀ x c, X.env.cells.lookup x = some c → c ≠ b) ∧ ∀ p ∈ X.pn ++ pins, p.1 ≠ b)
    (keep : ∀ b o, b ≠ X.env.locals → b ∉ X.fs → b ∉ ch → s.heap.get? b = some o → H b = none → h'.get? b = some o)
    (slot : ∀ b o, b ≠ X.env.locals → b ∈ X.fs → b ∉ ch → s.heap.get? b = some o → H b = none → ∃ sl, h'.get? b = some { o with slots := sl }) (free : ∀ b o, b ∉ ch → s.heap.get? b = some o → H b = none → H' b = none)
    (there : ∀ b o, b ∉ ch → s.heap.get? b = some o → ∃ o', h'.get? b = some o')
    (tups : ∀ b xs, H b = some (.tup xs) → H' b = some (.tup xs)) (frzs : ∀ b o u, H b = some (.frz o u) → H' b = some (.frz o u)) (tbls : ∀ b ps, H b = some (.tbl ps) → ∃ more, H' b = some (.tbl (ps ++ more)))
    (ns : ∀ m, s.heap.Ns X.env.locals m → h'.Ns X.env.locals m) (hok : HOk X.prog X.w H' h') (hg : AllBare g') :
    Inv X pins σ H' { s with heap := h', gens := g', drawn := d', toks := t' } := by
  have neL : ∀ b o, X.s₀.heap.get? b = some o → b ≠ X.env.locals := fun b o e => Nat.ne_of_lt (Nat.lt_of_lt_of_le (Heap.lt_size e) I.ok.above)
  have neC : ∀ b o, X.s₀.heap.get? b = some o → b ∉ X.ex → b ∉ ch := fun b o e hx hb => by
    rcases (hch b hb).1 with z | z
    · exact hx z
    · exact absurd (Nat.lt_of_lt_of_le (Heap.lt_size e) z) (Nat.lt_irrefl _)
  have cellK : ∀ x c, X.env.cells.lookup x = some c → ∀ v, s.heap.IsCell c v → h'.IsCell c v := fun x c e v ⟨o, ho, hd⟩ => by
    have nch : c ∉ ch := fun z => (hch c z).2.2.1 x c e rfl
    by_cases hc : c ∈ X.fs
    · obtain ⟨sl, q⟩ := slot c o (I.cne x c e) hc nch ho (I.freeC x c e)
      exact ⟨_, q, hd⟩
    · exact ⟨o, keep c o (I.cne x c e) hc nch ho (I.freeC x c e), hd⟩
  refine ⟨I.ok, I.os, hg, ⟨fun b o e n hb hx => ?_, fun b o e n hb hx => ?_, fun b o e n hx => ?_, fun b o e hx => ?_, fun b xs e => tups b xs (I.base.tups b xs e), fun b o xs e => frzs b o xs (I.base.frzs b o xs e), fun b ps e => ?_⟩, ?_, fun x c e => ?_, ?_, fun x c e => ?_, fun p hp => ?_, hok, I.len⟩
  · exact keep b o (neL b o e) hb (neC b o e hx) (I.base.keep b o e n hb hx) (I.base.free b o e n hx)
  · obtain ⟨sl, e1⟩ := I.base.slot b o e n hb hx
    obtain ⟨sl', e2⟩ := slot b _ (neL b o e) hb (neC b o e hx) e1 (I.base.free b o e n hx)
    exact ⟨sl', e2⟩
  · obtain ⟨o', e1⟩ := I.base.there b o e hx
    exact free b o' (neC b o e hx) e1 (I.base.free b o e n hx)
  · obtain ⟨o', e1⟩ := I.base.there b o e hx
    exact there b o' (neC b o e hx) e1
  · obtain ⟨m1, e1⟩ := I.base.tbls b ps e
    obtain ⟨m2, e2⟩ := tbls b _ e1
    exact ⟨m1 ++ m2, by rw [e2, Array.append_assoc]⟩
  · obtain ⟨m, hn, hl⟩ := I.loc
    refine ⟨m, ns m hn, fun i x v e1 e2 e3 => ?_⟩
    obtain ⟨u, r, l⟩ := hl i x v e1 e2 e3
    refine ⟨u, r, ?_⟩
    rcases l with l | ⟨k, c, e, z⟩
    · exact .inl l
    · exact .inr ⟨k, c, e, cellK x c e _ z⟩
  · obtain ⟨v, z⟩ := I.cell x c e
    exact ⟨v, cellK x c e v z⟩
  · obtain ⟨m, ⟨o, _, _, ho, _⟩, _⟩ := I.loc
    exact free _ o (fun z => (hch _ z).2.1 rfl) ho I.free
  · obtain ⟨v, o, ho, hd⟩ := I.cell x c e
    exact free c o (fun z => (hch c z).2.2.1 x c e rfl) ho (I.freeC x c e)
  · obtain ⟨e, n, ne, nf, d⟩ := I.pin p hp
    have nch : p.1 ∉ ch := fun z => (hch p.1 z).2.2.2 p hp rfl
    exact ⟨keep p.1 p.2 ne nf nch e n, free p.1 p.2 nch e n, ne, nf, d⟩
theorem Inv.un {t' : Nat} (I : Inv X pins σ H s) (u : Un X.fs [] H H' s.heap h') (hok : HOk X.prog X.w H' h') : Inv X pins σ H' { s with heap := h', toks := t' } := by
  obtain ⟨m, ⟨o, es, ep, ho, r⟩, _⟩ := id I.loc
  obtain ⟨sl, hL⟩ := u.any ho I.free (by simp)
  exact I.step (g' := s.gens) (d' := s.drawn) (ch := []) (fun _ z => nomatch z) (fun b o _ hb _ e n => u.keep b o e n hb (by simp)) (fun b o _ hb _ e n => u.slot b o e n hb (by simp)) (fun b o _ e n => u.free b o e n (by simp)) (fun b o _ e => u.there b o e (by simp)) u.tups u.frzs u.tbls (fun m' hm => by
    obtain ⟨o', es', ep', ho', r'⟩ := hm
    rw [ho] at ho'; cases ho'
    exact ⟨_, es', ep', hL, r'⟩) hok I.bare
theorem Inv.call {g' : Array GenState} {t' : Nat} {d' : Drawn} {ch : List Addr} (I : Inv X pins σ H s) (u : Un (frs X.stack) ch H H' s.heap h') (hok : HOk X.prog X.w H' h') (hg : AllBare g')
    (hch : ∀ b ∈ ch, (b ∈ X.ex ∨ X.s₀.heap.objs.size ≤ b) ∧ b ≠ X.env.locals ∧ (∀ x c, X.env.cells.lookup x = some c → c ≠ b) ∧ ∀ p ∈ X.pn ++ pins, p.1 ≠ b) :
    Inv X pins σ H' { s with heap := h', gens := g', drawn := d', toks := t' } := by
  obtain ⟨m, ⟨o, es, ep, ho, r⟩, _⟩ := id I.loc
  obtain ⟨sl, hL⟩ := u.any ho I.free fun z => (hch _ z).2.1 rfl
  exact I.step (ch := ch) hch (fun b o hL hb hc e n => u.keep b o e n (fun z => (List.mem_cons.mp (I.stkSub b z)).elim hL hb) hc) (fun b o _ _ hc e n => u.any e n hc) (fun b o hc e n => u.free b o e n hc) (fun b o hc e => u.there b o e hc) u.tups u.frzs u.tbls (fun m' hm => by
    obtain ⟨o', es', ep', ho', r'⟩ := hm
    rw [ho] at ho'; cases ho'
    exact ⟨_, es', ep', hL, r'⟩) hok hg
theorem Inv.turned {t' : Nat} {it : Addr} (I : Inv X pins σ H s) (k : ∀ b o, b ≠ it → s.heap.get? b = some o → h'.get? b = some o) (hn : H it = none) (hL : it ≠ X.env.locals)
    (h1 : it ∈ X.ex ∨ X.s₀.heap.objs.size ≤ it) (h2 : ∀ x c, X.env.cells.lookup x = some c → c ≠ it) (h3 : ∀ p ∈ X.pn ++ pins, p.1 ≠ it) : Inv X pins σ H { s with heap := h', toks := t' } := by
  have nit : ∀ b u, H b = some u → b ≠ it := fun b u e z => by rw [z, hn] at e; cases e
  refine I.step (g' := s.gens) (d' := s.drawn) (ch := [it]) (fun b hb => ?_) (fun b o _ _ hc e _ => k b o (fun z => hc (by simp [z])) e) (fun b o _ _ hc e _ => ⟨o.slots, k b o (fun z => hc (by simp [z])) e⟩) (fun _ _ _ _ n => n)
    (fun b o hc e => ⟨o, k b o (fun z => hc (by simp [z])) e⟩) (fun _ _ e => e) (fun _ _ _ e => e) (fun b ps e => ⟨#[], by rw [e]; simp⟩) (fun m hm => ?_) (fun b u e => ?_) I.bare
  · have e : b = it := by simpa using hb
    subst e
    exact ⟨h1, hL, h2, h3⟩
  · obtain ⟨o, es, ep, ho, r⟩ := hm
    exact ⟨o, es, ep, k _ o (Ne.symm hL) ho, r⟩
  · refine (I.hok b u e).stay (fun c v hc q => k c v ?_ q) (fun _ q => q) fun _ _ q => q
    rcases hc with z | z
    · rw [z]; exact nit b u e
    · exact nit c _ z
theorem Inv.tok (I : Inv X pins σ H s) (t : Nat) : Inv X pins σ H { s with toks := t } := I.un (h' := s.heap) (t' := t) Un.refl I.hok
theorem Inv.kept {t' : Nat} (I : Inv X pins σ H s) (k : ∀ b u, s.heap.get? b = some u → h'.get? b = some u) : Inv X pins σ H { s with heap := h', toks := t' } := I.un (Un.kept k) (I.hok.kept k)
theorem Inv.laid {a : Addr} {o : HO} {t' : Nat} (I : Inv X pins σ H s) (k : ∀ b u, s.heap.get? b = some u → h'.get? b = some u) (hp : s.heap.objs.size ≤ a) (new : ObjOk X.prog X.w (upd H a o) h' a o) :
    Inv X pins σ (upd H a o) { s with heap := h', toks := t' } := I.un (Un.laid k hp (I.hok.fresh hp)) (I.hok.laid k hp new)
theorem Inv.write {x e : Addr} {o : HO} {t' : Nat} (I : Inv X pins σ H s) (mu : Mut (H x)) (he : e = x ∨ H e = some (.own x)) (k : ∀ b u, b ≠ e → s.heap.get? b = some u → h'.get? b = some u) (heo : ∃ u, h'.get? e = some u)
    (new : ObjOk X.prog X.w (upd H x o) h' x o) : Inv X pins σ (upd H x o) { s with heap := h', toks := t' } := I.un (Un.write mu he k heo) (I.hok.write mu he k heo new)
theorem Inv.pins_of {pins' : List (Addr × Obj)} (I : Inv X pins σ H s) (h : ∀ p ∈ pins', s.heap.get? p.1 = some p.2 ∧ H p.1 = none ∧ p.1 ≠ X.env.locals ∧ p.1 ∉ X.fs ∧ ∀ v, p.2.data ≠ .cell v) : Inv X pins' σ H s :=
  ⟨I.ok, I.os, I.bare, I.base, I.loc, I.cell, I.free, I.freeC, fun p hp => (List.mem_append.mp hp).elim (fun z => I.pin p (List.mem_append_left _ z)) (h p), I.hok, I.len⟩

theorem nodup_ix {N : List Str} (hN : N.Nodup) {i j : Nat} {x : Str} (a : N[i]? = some x) (b : N[j]? = some x) : i = j := by
  obtain ⟨h1, e1⟩ := List.getElem?_eq_some_iff.mp a
  obtain ⟨h2, e2⟩ := List.getElem?_eq_some_iff.mp b
  exact (List.getElem_inj hN).mp (e1.trans e2.symm)

theorem store_ok2 {M : Model} {A : Around} {E : Value → Shared → Prop} {i : Nat} {x : Str} {v : V} {u : Value} {Q : Unit → Shared → Prop} (I : Inv X pins σ H s) (hN : X.N.Nodup) (hi : X.N[i]? = some x) (hx : Loc X.env.scope x) (r : RelV v u)
    (h : ∀ s', Inv X pins (σ.set i (some v)) H s' → (∃ a, Heap.SameBut a s.heap s'.heap ∧ (a = X.env.locals ∨ X.env.cells.lookup x = some a)) → Q () s') (hf : X.fn x = true ∨ X.env.scope.names.lookup x = some .local := by first | exact .inl rfl | exact .inr rfl | assumption) : wpAny M A (storeName X.env x u) Q E s := by
  obtain ⟨m, hn, hl⟩ := id I.loc
  have hcls : (X.env.scope.kind == .class || (X.env.scope.kind == .module && X.env.locals != X.env.globals)) = false := by rw [I.ok.kind]; rfl
  have hiσ : i < σ.length := by rw [I.len]; exact (List.getElem?_eq_some_iff.mp hi).1
  have cne := I.cne
  have tracked : ∀ {a : Addr} {h' : Heap}, (∃ o, s.heap.get? a = some o ∧ H a = none) → Heap.SameBut a s.heap h' → HOk X.prog X.w H h' := fun {a h'} ha hs b ob e => by
    obtain ⟨_, _, hfree⟩ := ha
    refine (I.hok b ob e).stay (fun c w' hc q => (hs.2 c ?_).trans q) (fun _ q => q) fun _ _ q => q
    rintro rfl
    rcases hc with rfl | hc
    · rw [hfree] at e; cases e
    · rw [hfree] at hc; cases hc
  rcases hx with hk | hk
  · refine wpAny_storeName_local hk hn (fun h' hn' hs => ?_) hcls
    obtain ⟨oL, _, _, hoL, _⟩ := id hn
    refine h _ ⟨I.ok, I.os, I.bare, ⟨fun b o e n hb hx => ?_, fun b o e n hb hx => ?_, I.base.free, fun b o e hx => ?_, I.base.tups, I.base.frzs, I.base.tbls⟩, ⟨_, hn', fun j y v' e1 e2 e3 => ?_⟩, fun y c e => ?_, I.free, I.freeC, fun p hp => ?_, tracked ⟨oL, hoL, I.free⟩ hs, by simpa using I.len⟩ ⟨_, hs, .inl rfl⟩
    · exact (hs.2 b (Nat.ne_of_lt (Nat.lt_of_lt_of_le (Heap.lt_size e) I.ok.above))).trans (I.base.keep b o e n hb hx)
    · obtain ⟨sl, e1⟩ := I.base.slot b o e n hb hx
      exact ⟨sl, (hs.2 b (Nat.ne_of_lt (Nat.lt_of_lt_of_le (Heap.lt_size e) I.ok.above))).trans e1⟩
    · obtain ⟨o', e1⟩ := I.base.there b o e hx
      exact ⟨o', (hs.2 b (Nat.ne_of_lt (Nat.lt_of_lt_of_le (Heap.lt_size e) I.ok.above))).trans e1⟩
    · by_cases hj : j = i
      · subst hj
        rw [hi] at e1; cases e1
        rw [List.getElem?_set_self hiσ] at e2
        cases e2
        exact ⟨u, r, .inl ⟨hk, by simp⟩⟩
      · rw [List.getElem?_set_ne (Ne.symm hj)] at e2
        obtain ⟨u', r', q⟩ := hl j y v' e1 e2 e3
        refine ⟨u', r', ?_⟩
        rcases q with ⟨k, e⟩ | ⟨k, c, e, z⟩
        · refine .inl ⟨k, ?_⟩
          have : y ≠ x := fun e => hj (nodup_ix hN e1 (e ▸ hi))
          simp [this, e]
        · exact .inr ⟨k, c, e, z.sameBut hs (cne y c e)⟩
    · obtain ⟨w', z⟩ := I.cell y c e
      exact ⟨w', z.sameBut hs (cne y c e)⟩
    · obtain ⟨e, n, ne, nf, d⟩ := I.pin p hp
      exact ⟨(hs.2 p.1 ne).trans e, n, ne, nf, d⟩
  · have hfn : X.fn x = true := by
      rcases hf with z | z
      · exact z
      · rw [z] at hk; cases hk
    obtain ⟨c, hc⟩ := I.ok.has x (.inl hk)
    obtain ⟨w', z⟩ := I.cell x c hc
    refine wpAny_storeName_cell I.ok.kind hk hc z (fun h' hc' hs => ?_)
    obtain ⟨oc, hoc, hocd⟩ := id z
    refine h { s with heap := h' } ⟨I.ok, I.os, I.bare, ⟨fun b o e n hb hx => ?_, fun b o e n hb hx => ?_, I.base.free, fun b o e hx => ?_, I.base.tups, I.base.frzs, I.base.tbls⟩, ⟨m, hn.sameBut hs (Ne.symm (cne x c hc)), fun j y v' e1 e2 e3 => ?_⟩, fun y c' e => ?_, I.free, I.freeC, fun p hp => ?_, tracked ⟨oc, hoc, I.freeC x c hc⟩ hs, by simpa using I.len⟩ ⟨c, hs, .inr hc⟩
    · exact (hs.2 b (Nat.ne_of_lt (Nat.lt_of_lt_of_le (Heap.lt_size e) (I.ok.cab x c hfn hc)))).trans (I.base.keep b o e n hb hx)
    · obtain ⟨sl, e1⟩ := I.base.slot b o e n hb hx
      exact ⟨sl, (hs.2 b (Nat.ne_of_lt (Nat.lt_of_lt_of_le (Heap.lt_size e) (I.ok.cab x c hfn hc)))).trans e1⟩
    · obtain ⟨o', e1⟩ := I.base.there b o e hx
      exact ⟨o', (hs.2 b (Nat.ne_of_lt (Nat.lt_of_lt_of_le (Heap.lt_size e) (I.ok.cab x c hfn hc)))).trans e1⟩
    · by_cases hj : j = i
      · subst hj
        rw [hi] at e1; cases e1
        rw [List.getElem?_set_self hiσ] at e2
        cases e2
        exact ⟨u, r, .inr ⟨.inl hk, c, hc, hc'⟩⟩
      · rw [List.getElem?_set_ne (Ne.symm hj)] at e2
        obtain ⟨u', r', q⟩ := hl j y v' e1 e2 e3
        refine ⟨u', r', ?_⟩
        rcases q with q | ⟨k, c', e, z'⟩
        · exact .inl q
        · refine .inr ⟨k, c', e, z'.sameBut hs ?_⟩
          rintro rfl
          exact hj (nodup_ix hN e1 (I.ok.inj _ _ _ e hc ▸ hi))
    · by_cases hcc : c' = c
      · subst hcc; exact ⟨_, hc'⟩
      · obtain ⟨w2, z2⟩ := I.cell y c' e
        exact ⟨w2, z2.sameBut hs hcc⟩
    · obtain ⟨e, n, ne, nf, d⟩ := I.pin p hp
      refine ⟨(hs.2 p.1 ?_).trans e, n, ne, nf, d⟩
      intro q
      rw [q, hoc] at e
      have q' : oc = p.2 := Option.some.inj e
      exact d w' (by rw [← q']; exact hocd)
theorem store_ok {M : Model} {A : Around} {E : Value → Shared → Prop} {i : Nat} {x : Str} {v : V} {u : Value} {Q : Unit → Shared → Prop} (I : Inv X pins σ H s) (hN : X.N.Nodup) (hi : X.N[i]? = some x) (hx : Loc X.env.scope x) (r : RelV v u)
    (h : ∀ s', Inv X pins (σ.set i (some v)) H s' → Q () s') (hf : X.fn x = true ∨ X.env.scope.names.lookup x = some .local := by first | exact .inl rfl | exact .inr rfl | assumption) : wpAny M A (storeName X.env x u) Q E s :=
  store_ok2 I hN hi hx r (fun s' I' _ => h s' I') hf
theorem Inv.call' {s' : Shared} {ch : List Addr} (I : Inv X pins σ H s) (ho : s'.os = s.os) (u : Un (frs X.stack) ch H H' s.heap s'.heap) (hok : HOk X.prog X.w H' s'.heap) (hg : AllBare s'.gens)
    (hch : ∀ b ∈ ch, (b ∈ X.ex ∨ X.s₀.heap.objs.size ≤ b) ∧ b ≠ X.env.locals ∧ (∀ x c, X.env.cells.lookup x = some c → c ≠ b) ∧ ∀ p ∈ X.pn ++ pins, p.1 ≠ b) : Inv X pins σ H' s' := by
  obtain ⟨h', g', d', t', o'⟩ := s'
  have e : o' = s.os := ho
  subst e
  exact I.call (g' := g') (t' := t') (d' := d') u hok hg hch
end

/-! ### the judgements -/
abbrev XK := Value → Option Addr → Hp → Prop
abbrev St := List (Option V)
abbrev VK := V → Hp → Prop
abbrev TE := St → Hp → VK → Prop
abbrev TT := St → Hp → (Bool → Hp → Prop) → Prop
abbrev TA := St → Hp → (List V → Hp → Prop) → Prop
structure Ends where
  nx : St → Hp → Prop
  rt : VK
  bk : St → Hp → Prop := fun _ _ => False
  ct : St → Hp → Prop := fun _ _ => False
abbrev TS := Ends → St → Hp → Prop

def EP (X : Cx) (pins : List (Addr × Obj)) (σ : St) (Q : VK) (u : Value) (s' : Shared) : Prop := ∃ v H', Inv X pins σ H' s' ∧ RelV v u ∧ Q v H'
def TP (X : Cx) (pins : List (Addr × Obj)) (σ : St) (Q : Bool → Hp → Prop) (b : Bool) (s' : Shared) : Prop := ∃ H', Inv X pins σ H' s' ∧ Q b H'
def AP (X : Cx) (pins : List (Addr × Obj)) (σ : St) (Q : List V → Hp → Prop) (us : List Value) (s' : Shared) : Prop := ∃ vs H', Inv X pins σ H' s' ∧ Vals vs us ∧ Q vs H'
def SP (X : Cx) (pins : List (Addr × Obj)) (D : Ends) (f : Flow) (s' : Shared) : Prop :=
  match f with
  | .next => ∃ σ' H', Inv X pins σ' H' s' ∧ D.nx σ' H'
  | .brk => ∃ σ' H', Inv X pins σ' H' s' ∧ D.bk σ' H'
  | .cont => ∃ σ' H', Inv X pins σ' H' s' ∧ D.ct σ' H'
  | .ret u => ∃ v σ' H', Inv X pins σ' H' s' ∧ RelV v u ∧ D.rt v H'

def PE (X : Cx) (e : Expr) (t : TE) : Prop :=
  ∀ (pins : List (Addr × Obj)) (s : Shared) (σ : St) (H : Hp) (Q : VK), Inv X pins σ H s → t σ H Q → wpAny (model X.prog X.w) X.A (eval e X.env) (EP X pins σ Q) X.xe s
def PT (X : Cx) (e : Expr) (t : TT) : Prop :=
  ∀ (pins : List (Addr × Obj)) (s : Shared) (σ : St) (H : Hp) (Q : Bool → Hp → Prop), Inv X pins σ H s → t σ H Q → wpAny (model X.prog X.w) X.A (isTrue e X.env (eval e X.env)) (TP X pins σ Q) X.xe s
def PW (X : Cx) (e : Expr) (t : TT) : Prop :=
  ∀ (whole : Sem Value) (pins : List (Addr × Obj)) (s : Shared) (σ : St) (H : Hp) (Q : Bool → Hp → Prop), Inv X pins σ H s → t σ H Q → wpAny (model X.prog X.w) X.A (isTrue e X.env whole) (TP X pins σ Q) X.xe s
theorem PW.pt {X : Cx} {e : Expr} {t : TT} (h : PW X e t) : PT X e t := h _
def PA (X : Cx) (es : List Expr) (t : TA) : Prop :=
  ∀ (pos : Pos) (pins : List (Addr × Obj)) (s : Shared) (σ : St) (H : Hp) (Q : List V → Hp → Prop), Inv X pins σ H s → t σ H Q → wpAny (model X.prog X.w) X.A (spliced (backTo pos (starEach es X.env))) (AP X pins σ Q) X.xe s
def PS (X : Cx) (st : Stmt) (t : TS) : Prop :=
  ∀ (pins : List (Addr × Obj)) (s : Shared) (σ : St) (H : Hp) (D : Ends), Inv X pins σ H s → t D σ H → wpAny (model X.prog X.w) X.A (exec st X.env) (SP X pins D) X.xe s
def PSs (X : Cx) (st : List Stmt) (t : TS) : Prop :=
  ∀ (pins : List (Addr × Obj)) (s : Shared) (σ : St) (H : Hp) (D : Ends), Inv X pins σ H s → t D σ H → wpAny (model X.prog X.w) X.A (execs st X.env) (SP X pins D) X.xe s
theorem thn {α : Type} {t : Sem α} {Q Q' : α → Shared → Prop} {M : Model} {A : Around} {E : Value → Shared → Prop} {s : Shared} (h : wpAny M A t Q E s) (hQ : ∀ a s, Q a s → Q' a s) : wpAny M A t Q' E s := wpAny_mono h hQ fun _ _ x => x
end L2

namespace L2
open PySem PySem.Spec PyProof.Rows
section
variable {X : Cx}

/-! ### names and constants -/
def tVar (i : Nat) : TE := fun σ H Q => ∃ v, σ[i]? = some (some v) ∧ Q v H
def tC (v : V) : TE := fun _ H Q => Q v H
theorem pe_var {i : Nat} {x : Str} {pos : Pos} (hN : X.N[i]? = some x) (hv : Vis X.env.scope x) (hd : (x == ("__debug__" : Str)) = false := by decide) (hcd : (x == ("__classdict__" : Str)) = false := by decide) : PE X (.Name x pos) (tVar i) := by
  intro pins s σ H Q I h
  obtain ⟨v, e, h⟩ := h
  obtain ⟨m, hn, hl⟩ := I.loc
  obtain ⟨u, r, l⟩ := hl i x v hN e hv
  have fin : EP X pins σ Q u s := ⟨v, H, I, r, h⟩
  rcases l with ⟨hk, hm⟩ | ⟨hk, c, hc, hcell⟩
  · exact wpAny_Name (wpAny_loadName_local I.ok.kind hk hn hm fin) hd
  · rcases hk with hk | hk
    · exact wpAny_Name (wpAny_loadName_cell I.ok.kind hk hc hcell fin) hd
    · exact wpAny_Name (wpAny_loadName_free I.ok.kind hk hc hcell fin hcd) hd
theorem pe_int {i j pos} : PE X (.Constant (.int i) j pos) (tC (.int i)) := fun _ _ _ H _ I h => wpAny_Constant_int ⟨.int i, H, I.tok _, ⟨_, rfl⟩, h⟩
theorem pe_bl {b j pos} : PE X (.Constant (.bool b) j pos) (tC (.bl b)) := fun _ _ _ H _ I h => Constant_bool ⟨.bl b, H, I, rfl, h⟩
theorem pe_non {j pos} : PE X (.Constant .none j pos) (tC .non) := fun _ _ _ H _ I h => Constant_none ⟨.non, H, I, rfl, h⟩
theorem pe_str {x j pos} : PE X (.Constant (.str x) j pos) (tC (.str x)) := fun _ _ _ H _ I h => Calls.Constant_str ⟨.str x, H, I.tok _, ⟨_, rfl⟩, h⟩

def Gl (X : Cx) (x : Str) : Prop := X.env.kindOf x = some .globalImplicit
theorem ld_glob {E : Value → Shared → Prop} {pins : List (Addr × Obj)} {s : Shared} {σ : St} {H : Hp} {x : Str} {u : Value} {pos : Pos} {Q : Value → Shared → Prop} (I : Inv X pins σ H s) (hg : Gl X x) (hm : X.mg x = some u) (h : Q u s)
    (hd : (x == ("__debug__" : Str)) = false := by decide) : wpAny (model X.prog X.w) X.A (eval (.Name x pos) X.env) Q E s :=
  Calls.Name_function_global I.ok.kind hg (Calls.loadGlobal_global (by rw [I.ok.glob]; exact I.mod.glob.keeps I.bk) hm h) hd
theorem ld_blt {E : Value → Shared → Prop} {pins : List (Addr × Obj)} {s : Shared} {σ : St} {H : Hp} {x : Str} {u : Value} {pos : Pos} {Q : Value → Shared → Prop} (I : Inv X pins σ H s) (hg : Gl X x) (hm : X.mg x = none) (hv : bootBuiltins x = some u) (h : Q u s)
    (hn : x ≠ "__name__" := by decide) (hd : (x == ("__debug__" : Str)) = false := by decide) : wpAny (model X.prog X.w) X.A (eval (.Name x pos) X.env) Q E s := by
  obtain ⟨mb, h1, h2⟩ := I.mod.blt
  exact Calls.Name_function_global I.ok.kind hg (Calls.loadGlobal_builtin (by rw [I.ok.glob]; exact I.mod.glob.keeps I.bk) hm (by rw [I.ok.blt]; exact h1.keeps I.bk) ((h2 x hn).trans hv) h) hd
theorem pe_glob {x : Str} {v : V} {u : Value} {pos : Pos} (hg : Gl X x) (hm : X.mg x = some u) (r : RelV v u) (hd : (x == ("__debug__" : Str)) = false := by decide) : PE X (.Name x pos) (tC v) :=
  fun _ _ _ H _ I h => ld_glob I hg hm ⟨v, H, I, r, h⟩ hd
theorem pe_bltn {x : Str} {v : V} {u : Value} {pos : Pos} (hg : Gl X x) (hm : X.mg x = none) (hv : bootBuiltins x = some u) (r : RelV v u) (hn : x ≠ "__name__" := by decide) (hd : (x == ("__debug__" : Str)) = false := by decide) : PE X (.Name x pos) (tC v) :=
  fun _ _ _ H _ I h => ld_blt I hg hm hv ⟨v, H, I, r, h⟩ hn hd

/-! ### arithmetic -/
variable {a b : Expr} {ta tb : TE} {pos : Pos}
/-! ### comparisons -/
def PC (X : Cx) (op : CmpOp) (a b : Expr) (t : TE) : Prop :=
  ∀ (pins : List (Addr × Obj)) (s : Shared) (σ : St) (H : Hp) (Q : VK), Inv X pins σ H s → t σ H Q →
    wpAny (model X.prog X.w) X.A (eval a X.env) (fun v s₁ => wpAny (model X.prog X.w) X.A (eval b X.env) (fun u s₂ => wpAny (model X.prog X.w) X.A (compareOp op v u) (EP X pins σ Q) X.xe s₂) X.xe s₁) X.xe s
def tB (t : TE) : TT := fun σ H Q => t σ H fun x H1 => ∃ c, x = .bl c ∧ Q c H1
theorem pt_val {e : Expr} {t : TE} (h : PE X e t) (he : ∀ whole, isTrue e X.env whole = (do let v ← whole; standAt e.pos; holding [v] (truthy v)) := by intro _; rfl) : PT X e (tB t) := by
  intro pins s σ H Q I hw
  refine isTrue_plain (thn (h pins s σ H _ I hw) fun v s1 ⟨x, H1, I1, r1, q1⟩ => ?_) (he _)
  obtain ⟨d, rfl, q⟩ := q1
  cases r1
  exact wpAny_truthy_bool ⟨H1, I1, q⟩

/-! ### and, or, not -/
variable {tA tB' : TT} {rest : List Expr}
def tAnd (t u : TT) : TT := fun σ H Q => t σ H fun c H1 => if c = true then u σ H1 Q else Q false H1
def tOr (t u : TT) : TT := fun σ H Q => t σ H fun c H1 => if c = true then Q true H1 else u σ H1 Q
def tNot (t : TT) : TT := fun σ H Q => t σ H fun c H1 => Q (!c) H1
theorem pw_and1 (ha : PT X a tA) : PW X (.BoolOp .And [a] pos) tA := by
  intro wh pins s σ H Q I h
  refine isTrue_and (thn (ha pins s σ H Q I h) fun c s1 e => ?_)
  cases c with
  | true => exact isTrue_and_nil e
  | false => exact e
theorem pw_or1 (ha : PT X a tA) : PW X (.BoolOp .Or [a] pos) tA := by
  intro wh pins s σ H Q I h
  refine isTrue_or (thn (ha pins s σ H Q I h) fun c s1 e => ?_)
  cases c with
  | false => exact isTrue_or_nil e
  | true => exact e
theorem pw_and (ha : PT X a tA) (hb : PW X (.BoolOp .And (b :: rest) pos) tB') : PW X (.BoolOp .And (a :: b :: rest) pos) (tAnd tA tB') := by
  intro wh pins s σ H Q I h
  refine isTrue_and (thn (ha pins s σ H _ I h) fun c s1 ⟨H1, I1, q1⟩ => ?_)
  cases c with
  | true => exact hb wh pins s1 σ H1 Q I1 q1
  | false => exact ⟨H1, I1, q1⟩
theorem pw_or (ha : PT X a tA) (hb : PW X (.BoolOp .Or (b :: rest) pos) tB') : PW X (.BoolOp .Or (a :: b :: rest) pos) (tOr tA tB') := by
  intro wh pins s σ H Q I h
  refine isTrue_or (thn (ha pins s σ H _ I h) fun c s1 ⟨H1, I1, q1⟩ => ?_)
  cases c with
  | true => exact ⟨H1, I1, q1⟩
  | false => exact hb wh pins s1 σ H1 Q I1 q1
theorem pt_not (ha : PT X a tA) : PT X (.UnaryOp .Not a pos) (tNot tA) := by
  intro pins s σ H Q I h
  exact isTrue_not (ha pins s σ H (fun c H1 => Q (!c) H1) I h)
end
end L2

namespace L2
open PySem PySem.Spec PyProof.Rows

/-! ### a list, a tuple that is read: tracked, frozen, or an object of the module -/
def SqL (K : PySem.W.Frag) (H : Hp) (a : Addr) (xs : List V) : Prop :=
  Rd H a (.lst xs) ∨
    ∃ (o : Obj) (its : Array Value) (n : Nat), K.lookup a = some o ∧ o.cls = .type "list" ∧ o.dict = none ∧ o.data = .seq its n ∧ its.size ≤ sizeLine ∧ Vals xs its.toList
def SqT (K : PySem.W.Frag) (H : Hp) (a : Addr) (xs : List V) : Prop :=
  Rd H a (.tup xs) ∨
    ∃ (o : Obj) (its : Array Value) (n : Nat), K.lookup a = some o ∧ o.cls = .type "tuple" ∧ o.data = .seq its n ∧ its.size ≤ sizeLine ∧ Vals xs its.toList
def absV : Value → Option V
  | .none => some .non
  | .bool b => some (.bl b)
  | .int i _ => some (.int i)
  | .str x _ => some (.str x)
  | .bytes b _ => some (.byt b)
  | .float b _ => some (.flt b)
  | .ref a => some (.ref a)
  | .type n => some (.ty n)
  | _ => none
theorem RelV.abs {x : V} {u : Value} (r : RelV x u) : absV u = some x := by
  cases x with
  | non => cases r; rfl
  | bl _ => cases r; rfl
  | int _ => obtain ⟨t, rfl⟩ := r; rfl
  | str _ => obtain ⟨t, rfl⟩ := r; rfl
  | byt _ => obtain ⟨t, rfl⟩ := r; rfl
  | flt _ => obtain ⟨t, rfl⟩ := r; rfl
  | ref _ => cases r; rfl
  | ty _ => cases r; rfl
theorem RelV.inj {x y : V} {u : Value} (r : RelV x u) (q : RelV y u) : x = y := Option.some.inj (r.abs.symm.trans q.abs)
theorem Vals.inj : ∀ {xs ys : List V} {us : List Value}, Vals xs us → Vals ys us → xs = ys
  | _, _, _, .nil, .nil => rfl
  | _, _, _, .cons r t, .cons r' t' => by rw [r.inj r', Vals.inj t t']
section
variable {X : Cx} {pins : List (Addr × Obj)} {σ : St} {H : Hp} {s : Shared} {a : Addr} {xs ys : List V}
theorem SqL.of {K : PySem.W.Frag} (h : H a = some (.lst xs)) : SqL K H a xs := .inl (.inl h)
theorem SqT.of {K : PySem.W.Frag} (h : H a = some (.tup xs)) : SqT K H a xs := .inl (.inl h)
theorem Inv.list (I : Inv X pins σ H s) (h : SqL X.K H a xs) : ∃ its : List Value, Vals xs its ∧ PlainL s.heap a its.toArray ∧ xs.length ≤ sizeLine := by
  rcases h with h | ⟨o, its, n, hk, hc, hd, hs, hz, r⟩
  · obtain ⟨z, its, n, r, e⟩ := h.ok I.hok
    exact ⟨its, r, ⟨_, n, e, rfl, rfl, rfl⟩, z⟩
  · refine ⟨its.toList, r, ⟨o, n, I.kIn a o hk, hc, hd, by simpa using hs⟩, ?_⟩
    have e := r.length
    simp only [Array.length_toList] at e
    omega
theorem Inv.tuple (I : Inv X pins σ H s) (h : SqT X.K H a xs) : ∃ its : List Value, Vals xs its ∧ IsTup s.heap a its.toArray ∧ xs.length ≤ sizeLine := by
  rcases h with h | ⟨o, its, n, hk, hc, hs, hz, r⟩
  · obtain ⟨z, its, r, p⟩ := h.ok I.hok
    exact ⟨its, r, p, z⟩
  · refine ⟨its.toList, r, ⟨o, I.kIn a o hk, hc, n, by simpa using hs⟩, ?_⟩
    have e := r.length
    simp only [Array.length_toList] at e
    omega
theorem Inv.list_inj (I : Inv X pins σ H s) (h : SqL X.K H a xs) (h' : SqL X.K H a ys) : xs = ys := by
  obtain ⟨its, r, ⟨o, n, e, _, _, d⟩, _⟩ := I.list h
  obtain ⟨its', r', ⟨o', n', e', _, _, d'⟩, _⟩ := I.list h'
  rw [e] at e'; cases e'
  rw [d] at d'
  injection d' with d1 _
  have : its = its' := by simpa using congrArg Array.toList d1
  subst this
  exact r.inj r'
theorem Inv.tuple_inj (I : Inv X pins σ H s) (h : SqT X.K H a xs) (h' : SqT X.K H a ys) : xs = ys := by
  obtain ⟨its, r, ⟨o, e, _, n, d⟩, _⟩ := I.tuple h
  obtain ⟨its', r', ⟨o', e', _, n', d'⟩, _⟩ := I.tuple h'
  rw [e] at e'; cases e'
  rw [d] at d'
  injection d' with d1 _
  have : its = its' := by simpa using congrArg Array.toList d1
  subst this
  exact r.inj r'
end

/-! ### another wish about exceptions -/
abbrev Cx.wish (X : Cx) (E : Value → Shared → Prop) : Cx := { X with xe := E }
abbrev Cx.nox (X : Cx) : Cx := X.wish fun _ _ => False
theorem Cx.Ok.wish {X : Cx} (ok : X.Ok) (E : Value → Shared → Prop) : (X.wish E).Ok :=
  ⟨ok.mod, ok.kind, ok.glob, ok.blt, ok.above, ok.inj, ok.has, ok.cab, ok.hd, ok.frames, ok.stk, ok.exf, ok.bs, ok.bsz, ok.noex, ok.exfs, ok.funs, ok.frf⟩
theorem Cx.Ok.unwish {X : Cx} {E : Value → Shared → Prop} (ok : (X.wish E).Ok) : X.Ok :=
  ⟨ok.mod, ok.kind, ok.glob, ok.blt, ok.above, ok.inj, ok.has, ok.cab, ok.hd, ok.frames, ok.stk, ok.exf, ok.bs, ok.bsz, ok.noex, ok.exfs, ok.funs, ok.frf⟩
section
variable {X : Cx} {pins : List (Addr × Obj)} {σ : St} {H : Hp} {s : Shared} {E : Value → Shared → Prop}
theorem Inv.wish (I : Inv X pins σ H s) (E : Value → Shared → Prop) : Inv (X.wish E) pins σ H s := ⟨I.ok.wish E, I.os, I.bare, I.base, I.loc, I.cell, I.free, I.freeC, I.pin, I.hok, I.len⟩
theorem Inv.unwish (I : Inv (X.wish E) pins σ H s) : Inv X pins σ H s := ⟨I.ok.unwish, I.os, I.bare, I.base, I.loc, I.cell, I.free, I.freeC, I.pin, I.hok, I.len⟩
theorem SP.unwish {D : Ends} {f : Flow} {s' : Shared} (h : SP (X.wish E) pins D f s') : SP X pins D f s' := by
  cases f with
  | next => obtain ⟨σ', H', I, q⟩ := h; exact ⟨σ', H', I.unwish, q⟩
  | brk => obtain ⟨σ', H', I, q⟩ := h; exact ⟨σ', H', I.unwish, q⟩
  | cont => obtain ⟨σ', H', I, q⟩ := h; exact ⟨σ', H', I.unwish, q⟩
  | ret u => obtain ⟨v, σ', H', I, r, q⟩ := h; exact ⟨v, σ', H', I.unwish, r, q⟩
theorem PSs.nox {st : List Stmt} {t : TS} (h : PSs X.nox st t) : PSs X st t := fun pins s σ H D I hw =>
  wpAny_mono (h pins s σ H D (I.wish _) hw) (fun _ _ q => q.unwish) fun _ _ z => False.elim z
end

/-! ### blocks and small statements -/
section
variable {X : Cx} {st : Stmt} {rest : List Stmt} {t u : TS} {e : Expr} {te : TE} {pos : Pos}
def tNext : TS := fun D σ H => D.nx σ H
def tSeq (t u : TS) : TS := fun D σ H => t { D with nx := u D } σ H
theorem pss_nil : PSs X [] tNext := fun _ _ σ H _ I h => wpAny_execs_nil ⟨σ, H, I, h⟩
theorem pss_cons (h1 : PS X st t) (h2 : PSs X rest u) : PSs X (st :: rest) (tSeq t u) := by
  intro pins s σ H D I h
  refine wpAny_execs_cons (thn (h1 pins s σ H { D with nx := u D } I h) fun f s1 q => ?_)
  cases f with
  | next =>
    obtain ⟨σ', H', I', q⟩ := q
    exact h2 pins s1 σ' H' D I' q
  | ret v => exact q
  | brk => exact q
  | cont => exact q
theorem pss_one (h1 : PS X st t) : PSs X [st] t := by
  intro pins s σ H D I h
  refine wpAny_execs_cons (thn (h1 pins s σ H D I h) fun f s1 q => ?_)
  cases f with
  | next => exact wpAny_execs_nil q
  | ret v => exact q
  | brk => exact q
  | cont => exact q
theorem Inv.quiet {pins : List (Addr × Obj)} {σ : St} {H : Hp} {s : Shared} (I : Inv X pins σ H s) : interactive X.env = false := by simp [interactive, I.ok.kind]
def tDrop (te : TE) : TS := fun D σ H => te σ H fun _ H1 => D.nx σ H1
theorem ps_expr (he : PE X e te) (hs : swapsWith e none pos.line X.env = pure false := by rfl) : PS X (.Expr e pos) (tDrop te) := by
  intro pins s σ H D I h
  exact wpAny_Expr_any (thn (he pins s σ H _ I h) fun v s1 ⟨x, H1, I1, r1, q1⟩ => ⟨σ, H1, I1, q1⟩) I.quiet hs
def tRet (te : TE) : TS := fun D σ H => te σ H D.rt
theorem ps_ret (he : PE X e te) : PS X (.Return (some e) pos) (tRet te) := by
  intro pins s σ H D I h
  exact wpAny_Return_some (thn (he pins s σ H _ I h) fun v s1 ⟨x, H1, I1, r1, q1⟩ => ⟨x, σ, H1, I1, r1, q1⟩)
def tIfS (c : TT) (t u : TS) : TS := fun D σ H => c σ H fun b H1 => if b = true then t D σ H1 else u D σ H1
theorem ps_if {c : Expr} {a b : List Stmt} {tc : TT} (hc : PT X c tc) (ha : PSs X a t) (hb : PSs X b u) : PS X (.If c a b pos) (tIfS tc t u) := by
  intro pins s σ H D I h
  refine wpAny_If (thn (hc pins s σ H _ I h) fun d s1 ⟨H1, I1, q1⟩ => ?_)
  cases d with
  | true => exact ha pins s1 σ H1 D I1 q1
  | false => exact hb pins s1 σ H1 D I1 q1
end

/-! ### targets -/
abbrev TG := V → St → Hp → (St → Hp → Prop) → Prop
abbrev TGs := List V → St → Hp → (St → Hp → Prop) → Prop
def PG (X : Cx) (target : Expr) (t : TG) : Prop :=
  ∀ (pins : List (Addr × Obj)) (s : Shared) (σ : St) (H : Hp) (v : V) (u : Value) (Q : St → Hp → Prop), Inv X pins σ H s → RelV v u → t v σ H Q →
    wpAny (model X.prog X.w) X.A (assign target X.env u) (fun _ s' => ∃ σ' H', Inv X pins σ' H' s' ∧ Q σ' H') X.xe s
def PGs (X : Cx) (ts : List Expr) (t : TGs) : Prop :=
  ∀ (pins : List (Addr × Obj)) (s : Shared) (σ : St) (H : Hp) (vs : List V) (us : List Value) (Q : St → Hp → Prop), Inv X pins σ H s → Vals vs us → t vs σ H Q →
    wpAny (model X.prog X.w) X.A (assignInOrder ((assignEach ts X.env).map (·.2)) us) (fun _ s' => ∃ σ' H', Inv X pins σ' H' s' ∧ Q σ' H') X.xe s
section
variable {X : Cx} {pos : Pos}
def gName (i : Nat) : TG := fun v σ H Q => Q (σ.set i (some v)) H
theorem pg_name {i : Nat} {x : Str} (hN : X.N.Nodup) (hi : X.N[i]? = some x) (hx : Loc X.env.scope x) (hf : X.fn x = true ∨ X.env.scope.names.lookup x = some .local := by first | exact .inl rfl | exact .inr rfl | assumption) : PG X (.Name x pos) (gName i) := by
  intro pins s σ H v u Q I r h
  exact wpAny_assign_Name (store_ok I hN hi hx r (fun s' I' => ⟨_, H, I', h⟩) hf)
def tAsg (te : TE) (g : TG) : TS := fun D σ H => te σ H fun x H1 => g x σ H1 D.nx
theorem ps_set {i : Nat} {x : Str} {e : Expr} {te : TE} {pos' : Pos} (hN : X.N.Nodup) (hi : X.N[i]? = some x) (hx : Loc X.env.scope x) (he : PE X e te) (hs : swapsWith e (some (.Name x pos')) pos.line X.env = pure false := by rfl) (hf : X.fn x = true ∨ X.env.scope.names.lookup x = some .local := by first | exact .inl rfl | exact .inr rfl | assumption) :
    PS X (.Assign [.Name x pos'] e pos) (tAsg te (gName i)) := by
  intro pins s σ H D I h
  refine wpAny_Assign_Name (thn (he pins s σ H _ I h) fun v s1 ⟨y, H1, I1, r1, q1⟩ => ?_) hs
  exact store_ok I1 hN hi hx r1 (fun s2 I2 => ⟨_, H1, I2, q1⟩) hf
end

/-! ### while -/
section
variable {X : Cx} {pos : Pos}
end

/-! ### what a loop or a comprehension walks -/
structure It where
  go : Nat → Hp → Prop
  yld : Nat → Hp → V → Hp → Prop
  stop : Nat → Hp → Prop
def FpOk (X : Cx) (pins : List (Addr × Obj)) (H : Hp) (b : Addr) : Prop :=
  H b = none ∧ b ≠ X.env.locals ∧ b ∉ X.fs ∧ (b ∈ X.ex ∨ X.s₀.heap.objs.size ≤ b) ∧ (∀ x c, X.env.cells.lookup x = some c → c ≠ b) ∧ ∀ p ∈ X.pn ++ pins, p.1 ≠ b
theorem Inv.fpOk {X : Cx} {pins : List (Addr × Obj)} {σ : St} {H H' : Hp} {s : Shared} {b : Addr} (I : Inv X pins σ H s) (hb : s.heap.objs.size ≤ b) (hn : H' b = none) : FpOk X pins H' b := by
  refine ⟨hn, Nat.ne_of_gt (Nat.lt_of_lt_of_le I.lt hb), I.nofs hb, .inr (Nat.le_trans I.sz hb), fun x c e z => ?_, fun p hp z => ?_⟩
  · obtain ⟨v, q⟩ := I.cell x c e
    exact absurd (Nat.lt_of_lt_of_le q.lt (by rw [z]; exact hb)) (Nat.lt_irrefl _)
  · exact absurd (Nat.lt_of_lt_of_le (Heap.lt_size (I.pin p hp).1) (by rw [z]; exact hb)) (Nat.lt_irrefl _)
structure Turn (P : Program) (w : World) (K : PySem.W.Frag) (tg : Expr) (J : It) (fp : List Addr) (it : Addr) (tn : Nat → Heap → Prop) : Prop where
  mem : it ∈ fp
  obj : ∀ i h, tn i h → ∀ b ∈ fp, ∃ o, h.get? b = some o ∧ ∀ v, o.data ≠ .cell v
  keep : ∀ i h h', tn i h → (∀ b ∈ fp, ∀ o, h.get? b = some o → h'.get? b = some o) → tn i h'
  item : ∀ (X : Cx), X.prog = P → X.w = w → X.K = K → X.calm = true → ∀ (i : Nat) (pins : List (Addr × Obj)) (s : Shared) (σ : St) (H : Hp) (E : Value → Shared → Prop), Inv X pins σ H s → (∀ b ∈ fp, FpOk X pins H b) → tn i s.heap → J.go i H →
    wpAny (model P w) X.A (pyNext (.ref it)) (fun r s1 => ∃ u, r = some u ∧
      wpAny (model P w) X.A (letOwnedTupleGo tg (.ref it) u) (fun _ s2 => ∃ x H', Inv X pins σ H' s2 ∧ RelV x u ∧ J.yld i H x H' ∧ tn (i + 1) s2.heap ∧ ∀ b ∈ fp, H' b = none) E s1) E s
  done : ∀ (X : Cx), X.prog = P → X.w = w → X.K = K → X.calm = true → ∀ (i : Nat) (pins : List (Addr × Obj)) (s : Shared) (σ : St) (H : Hp) (E : Value → Shared → Prop), Inv X pins σ H s → (∀ b ∈ fp, FpOk X pins H b) → tn i s.heap → J.stop i H →
    wpAny (model P w) X.A (pyNext (.ref it)) (fun r s1 => r = none ∧ Inv X pins σ H s1) E s
  self : ∀ (A : Around) (i : Nat) (s : Shared) (Q : Value → Shared → Prop) (E : Value → Shared → Prop), tn i s.heap → Q (.ref it) s → wpAny (model P w) A (pyIter (.ref it)) Q E s
abbrev TI := St → Hp → (It → Hp → Prop) → Prop
def PIE (X : Cx) (pins : List (Addr × Obj)) (σ : St) (tg : Expr) (R : It → Hp → Prop) (itv : Value) (s2 : Shared) : Prop :=
  ∃ (it : Addr) (fp : List Addr) (tn : Nat → Heap → Prop) (J : It) (H' : Hp), itv = .ref it ∧ Inv X pins σ H' s2 ∧ Turn X.prog X.w X.K tg J fp it tn ∧ tn 0 s2.heap ∧ (∀ b ∈ fp, FpOk X pins H' b) ∧ R J H'
def PI (X : Cx) (tg iter : Expr) (wi : TI) : Prop :=
  ∀ (pins : List (Addr × Obj)) (s : Shared) (σ : St) (H : Hp) (R : It → Hp → Prop), Inv X pins σ H s → wi σ H R →
    wpAny (model X.prog X.w) X.A (eval iter X.env) (fun v s1 => wpAny (model X.prog X.w) X.A (pyIter v) (PIE X pins σ tg R) X.xe s1) X.xe s

theorem go_of {M : Model} {A : Around} {E : Value → Shared → Prop} {s : Shared} {tg : Expr} {it : Addr} {u : Value} {o : Obj} {n : String} {vs : Array Value} {Q : Unit → Shared → Prop} (ho : s.heap.get? it = some o) (hc : o.cls = .type n) (hd : o.data = .fields vs)
    (hn : ["enumerate", "zip", "dict_itemiterator", "dict_reverseitemiterator", "odict_iterator", "itertools.zip_longest", "itertools.pairwise"].contains n = false) (hQ : Q () s) : wpAny M A (letOwnedTupleGo tg (.ref it) u) Q E s := by
  unfold letOwnedTupleGo
  cases tg <;> first
    | exact wpAny_pure hQ
    | (cases u <;> first
        | exact wpAny_pure hQ
        | (refine wpAny_bind (wpAny_load ho ?_)
           rw [hc, hd]
           show wpAny M A (if (["enumerate", "zip", "dict_itemiterator", "dict_reverseitemiterator", "odict_iterator", "itertools.zip_longest", "itertools.pairwise"].contains n && vs[0]? == some (rawInt _)) = true then _ else _) Q E s
           rw [if_neg (by intro h; rw [hn, Bool.false_and] at h; cases h)]
           exact wpAny_pure hQ))

def Itl (K : PySem.W.Frag) (a : Addr) : It :=
  ⟨fun i H => ∃ xs x, SqL K H a xs ∧ xs[i]? = some x, fun i H x H' => H' = H ∧ ∀ xs, SqL K H a xs → xs[i]? = some x, fun i H => ∃ xs, SqL K H a xs ∧ xs.length ≤ i⟩
def Itr (lo : Int) (n : Nat) : It := ⟨fun i _ => i < n, fun i H x H' => H' = H ∧ x = .int (lo + i), fun i _ => n ≤ i⟩
theorem turn_list {P : Program} {w : World} {K : PySem.W.Frag} {tg : Expr} (a it : Addr) : Turn P w K tg (Itl K a) [it] it (fun i h => h.IsListIter it a i) where
  mem := by simp
  obj := fun i h st b hb => by
    have e : b = it := by simpa using hb
    subst e
    obtain ⟨o, e, c, d⟩ := st
    exact ⟨o, e, fun v z => by rw [d] at z; cases z⟩
  keep := fun i h h' st k => st.at fun o e => k it (by simp) o e
  item := by
    intro X hP hw hK hc i pins s σ H E I hf st hg
    subst hP hw hK
    obtain ⟨xs, x, hq, hx⟩ := hg
    obtain ⟨its, rv, p, hz⟩ := I.list hq
    obtain ⟨u, hu, ru⟩ := rv.get hx
    obtain ⟨f0, f1, f2, f3, f4, f5⟩ := hf it (by simp)
    refine wpAny_pyNext_list_item st p.isList (x := u) (by simpa using hu) fun h' st' sb => ?_
    have I1 : Inv X pins σ H { s with heap := h' } := I.turned (t' := s.toks) (fun b o hb e => (sb.2 b hb).trans e) f0 f1 f3 f4 f5
    obtain ⟨o, e, c, d⟩ := id st'
    exact ⟨u, rfl, go_of (s := { s with heap := h' }) e c d (by decide) ⟨x, H, I1, ru, ⟨rfl, fun ys hy => by rw [I.list_inj hy hq]; exact hx⟩, st', fun b hb => (hf b hb).1⟩⟩
  done := by
    intro X hP hw hK hc i pins s σ H E I hf st hg
    subst hP hw hK
    obtain ⟨xs, hq, hx⟩ := hg
    obtain ⟨its, rv, p, hz⟩ := I.list hq
    obtain ⟨f0, f1, f2, f3, f4, f5⟩ := hf it (by simp)
    have hl := rv.length
    exact wpAny_pyNext_list_end (I.ok.hd hc) st p.isList (by simp; omega) fun h' eb => ⟨rfl, I.turned (t' := s.toks) (fun b o hb e => eb b o hb e) f0 f1 f3 f4 f5⟩
  self := fun _ _ _ _ _ st h => wpAny_pyIter_listiter st h
theorem turn_range {P : Program} {w : World} {K : PySem.W.Frag} {tg : Expr} (it : Addr) (lo : Int) (n : Nat) : Turn P w K tg (Itr lo n) [it] it (fun i h => IsRangeIter h it (lo + (i : Nat) * 1) ((n : Int) - (i : Nat)) 1) where
  mem := by simp
  obj := fun i h st b hb => by
    have e : b = it := by simpa using hb
    subst e
    exact ⟨_, st, fun v z => by
      have z' : Data.fields _ = Data.cell v := z
      cases z'⟩
  keep := fun i h h' st k => k it (by simp) _ st
  item := by
    intro X hP hw hK hc i pins s σ H E I hf st hg
    subst hP hw hK
    obtain ⟨f0, f1, f2, f3, f4, f5⟩ := hf it (by simp)
    have W := Walks.range (prog := X.prog) (w := X.w) (I.ok.hd hc) it lo 1 n
    refine W.item i s _ _ hg st fun v h' tk hv st' kk => ?_
    obtain ⟨t, rfl⟩ := hv
    have I1 : Inv X pins σ H { s with heap := h', toks := tk } := I.turned (fun b o hb e => kk b o (by simpa using hb) e) f0 f1 f3 f4 f5
    refine ⟨_, rfl, go_of (s := { s with heap := h', toks := tk }) (n := "range_iterator") st' rfl rfl (by decide) ⟨.int (lo + i), H, I1, ⟨t, ?_⟩, ⟨rfl, rfl⟩, st', fun b hb => (hf b hb).1⟩⟩
    rw [Int.mul_one]
  done := by
    intro X hP hw hK hc i pins s σ H E I hf st hg
    subst hP hw hK
    obtain ⟨f0, f1, f2, f3, f4, f5⟩ := hf it (by simp)
    exact wpAny_pyNext_range_end (I.ok.hd hc) st (by have : n ≤ i := hg; omega) fun h' eb => ⟨rfl, I.turned (t' := s.toks) (fun b o hb e => eb b o hb e) f0 f1 f3 f4 f5⟩
  self := fun _ _ _ _ _ st h => wpAny_pyIter_rangeiter st h
end L2

namespace L2
open PySem PySem.Spec PyProof.Rows
section
variable {X : Cx} {tg : Expr}
def iList (K : PySem.W.Frag) (tl : TE) : TI := fun σ H R => tl σ H fun x H1 => ∃ a, x = .ref a ∧ (∃ xs, SqL K H1 a xs) ∧ R (Itl K a) H1
theorem pi_list {l : Expr} {tl : TE} (hl : PE X l tl) : PI X tg l (iList X.K tl) := by
  intro pins s σ H R I h
  refine thn (hl pins s σ H _ I h) fun v s1 ⟨x, H1, I1, r1, q1⟩ => ?_
  obtain ⟨a, e, ⟨xs, hq⟩, q⟩ := q1
  subst e
  cases r1
  obtain ⟨its, rv, p, hz⟩ := I1.list hq
  refine wpAny_pyIter_list p.isList ?_
  refine ⟨s1.heap.objs.size, [s1.heap.objs.size], _, _, H1, rfl, I1.kept (t' := s1.toks) fun b o e => Heap.get?_push_of_some _ e, turn_list a _, ⟨_, Heap.get?_push_size _ rfl, rfl, rfl⟩, fun b hb => ?_, q⟩
  have e : b = s1.heap.objs.size := by simpa using hb
  subst e
  exact I1.fpOk (Nat.le_refl _) (I1.hok.fresh (Nat.le_refl _))
theorem range_it {pins : List (Addr × Obj)} {σ : St} {H : Hp} {s : Shared} {R : It → Hp → Prop} {E : Value → Shared → Prop} {lo hi : Int} {t u v : Tok} {tk : Nat} (I : Inv X pins σ H s) (h1 : -(2 ^ 62) ≤ lo) (h2 : lo < 2 ^ 62) (h3 : -(2 ^ 62) ≤ hi) (h4 : hi < 2 ^ 62)
    (q : R (Itr lo (hi - lo).toNat) H) : wpAny (model X.prog X.w) X.A (pyIter (.ref s.heap.objs.size)) (PIE X pins σ tg R) E { s with heap := s.heap.push { cls := .type "range", data := .fields #[.int lo t, .int hi u, .int 1 v] }, toks := tk } := by
  refine wpAny_pyIter_range (IsRange.new ..) (small_one h1 h2 h3 h4) ?_
  have I1 : Inv X pins σ H { s with heap := s.heap.push { cls := .type "range", data := .fields #[.int lo t, .int hi u, .int 1 v] }, toks := tk } := I.kept fun b o e => Heap.get?_push_of_some _ e
  refine ⟨(s.heap.push { cls := .type "range", data := .fields #[.int lo t, .int hi u, .int 1 v] }).objs.size, [(s.heap.push { cls := .type "range", data := .fields #[.int lo t, .int hi u, .int 1 v] }).objs.size], _, _, H, rfl,
    I1.kept (t' := tk) fun b o e => Heap.get?_push_of_some _ e, turn_range _ lo (hi - lo).toNat, ?_, fun b hb => ?_, q⟩
  · have e1 : lo + ((0 : Nat) : Int) * 1 = lo := by simp
    have e2 : (((hi - lo).toNat : Nat) : Int) - ((0 : Nat) : Int) = Builtin.Range.rangeSize lo hi 1 := by rw [rangeSize_one]; split <;> omega
    show IsRangeIter _ _ (lo + ((0 : Nat) : Int) * 1) ((((hi - lo).toNat : Nat) : Int) - ((0 : Nat) : Int)) 1
    rw [e1, e2]
    exact Heap.get?_push_size _ rfl
  · have e : b = (s.heap.push { cls := .type "range", data := .fields #[.int lo t, .int hi u, .int 1 v] }).objs.size := by simpa using hb
    subst e
    exact I1.fpOk (Nat.le_refl _) (I1.hok.fresh (Nat.le_refl _))
def iRng1 (ta : TA) : TI := fun σ H R => ta σ H fun vs H1 => ∃ j : Int, vs = [.int j] ∧ -(2 ^ 62) ≤ j ∧ j < 2 ^ 62 ∧ R (Itr 0 j.toNat) H1
def iRng2 (ta : TA) : TI := fun σ H R => ta σ H fun vs H1 => ∃ i j : Int, vs = [.int i, .int j] ∧ (-(2 ^ 62) ≤ i ∧ i < 2 ^ 62 ∧ -(2 ^ 62) ≤ j ∧ j < 2 ^ 62) ∧ R (Itr i (j - i).toNat) H1
theorem pi_range1 {a : Expr} {ta : TA} {p pos : Pos} (hg : Gl X "range") (hm : X.mg "range" = none) (ha : PA X [a] ta) (hs : starEach [a] X.env = [(false, eval a X.env)] := by rfl) : PI X tg (.Call (.Name "range" p) [a] [] pos) (iRng1 ta) := by
  intro pins s σ H R I h
  refine Call_ (ld_blt I hg hm boot_range (PyProof.Rows.callWith_type1 (thn (ha pos pins s σ H _ I h) fun us s1 ⟨vs, H1, I1, r1, q1⟩ => ?_) hs rfl))
  obtain ⟨j, e, q1, q2, q⟩ := q1
  subst e
  cases r1 with
  | cons r rr =>
    cases rr
    obtain ⟨t, rfl⟩ := r
    exact call_range_1 (range_it I1 (by omega) (by omega) q1 q2 (by simpa using q))
theorem pi_range2 {a b : Expr} {ta : TA} {p pos : Pos} (hg : Gl X "range") (hm : X.mg "range" = none) (ha : PA X [a, b] ta) (hs : starEach [a, b] X.env = [(false, eval a X.env), (false, eval b X.env)] := by rfl) (hs2 : starEach [b] X.env = [(false, eval b X.env)] := by rfl) :
    PI X tg (.Call (.Name "range" p) [a, b] [] pos) (iRng2 ta) := by
  intro pins s σ H R I h
  refine Call_ (ld_blt I hg hm boot_range (PyProof.Rows.callWith_type1 (thn (ha pos pins s σ H _ I h) fun us s1 ⟨vs, H1, I1, r1, q1⟩ => ?_) (by rw [hs, hs2]) (by rw [hs2]; rfl)))
  obtain ⟨i, j, e, ⟨q1, q2, q3, q4⟩, q⟩ := q1
  subst e
  cases r1 with
  | cons r rr =>
    cases rr with
    | cons r' rr =>
      cases rr
      obtain ⟨t, rfl⟩ := r
      obtain ⟨t', rfl⟩ := r'
      exact call_range_2 (range_it I1 q1 q2 q3 q4 q)

/-! ### for -/
def tFor (wi : TI) (g : TG) (tb : TS) : TS := fun D σ H => wi σ H fun J H1 => ∃ W : Nat → Nat → St → Hp → Prop, (∃ m, W 0 m σ H1) ∧ ∀ i m σ H, W i m σ H →
  (J.stop i H ∧ D.nx σ H) ∨ (J.go i H ∧ ∃ N : St → Hp → Prop, (∀ σ' H', N σ' H' → ∃ m', m' < m ∧ W (i + 1) m' σ' H') ∧ ∀ x H', J.yld i H x H' → g x σ H' fun σ2 H2 => tb { D with nx := N, ct := N, bk := D.nx } σ2 H2)
def pinsAt (fp : List Addr) (h : Heap) : List (Addr × Obj) := fp.filterMap fun b => (h.get? b).map fun o => (b, o)
theorem mem_pinsAt {fp : List Addr} {h : Heap} {b : Addr} {o : Obj} (hb : b ∈ fp) (e : h.get? b = some o) : (b, o) ∈ pinsAt fp h := List.mem_filterMap.mpr ⟨b, hb, by rw [e]; rfl⟩
theorem of_pinsAt {fp : List Addr} {h : Heap} {p : Addr × Obj} (hp : p ∈ pinsAt fp h) : p.1 ∈ fp ∧ h.get? p.1 = some p.2 := by
  obtain ⟨b, hb, e⟩ := List.mem_filterMap.mp hp
  cases q : h.get? b with
  | none => rw [q] at e; cases e
  | some o =>
    rw [q] at e
    have e' : (b, o) = p := Option.some.inj e
    subst e'
    exact ⟨hb, q⟩
theorem Inv.pinned {pins : List (Addr × Obj)} {σ : St} {H : Hp} {s : Shared} {fp : List Addr} (I : Inv X pins σ H s) (hf : ∀ b ∈ fp, FpOk X pins H b) (ho : ∀ b ∈ fp, ∃ o, s.heap.get? b = some o ∧ ∀ v, o.data ≠ .cell v) : Inv X (pins ++ pinsAt fp s.heap) σ H s :=
  I.pins_of fun p hp => (List.mem_append.mp hp).elim (fun z => I.pin p (List.mem_append_right _ z)) fun z => by
    obtain ⟨hb, e⟩ := of_pinsAt z
    obtain ⟨f0, f1, f2, _⟩ := hf p.1 hb
    obtain ⟨o, e', d⟩ := ho p.1 hb
    rw [e] at e'; cases e'
    exact ⟨e, f0, f1, f2, d⟩
theorem Inv.unpinned {pins pl : List (Addr × Obj)} {σ : St} {H : Hp} {s : Shared} (I : Inv X (pins ++ pl) σ H s) : Inv X pins σ H s := I.pins_of fun p hp => I.pin p (List.mem_append_right _ (List.mem_append_left _ hp))
theorem ps_for {iter : Expr} {body : List Stmt} {wi : TI} {g : TG} {tb : TS} {pos : Pos} (hp : PassesOwn (model X.prog X.w) X.A X.env X.xe) (hc : X.calm = true) (hi : PI X tg iter wi) (hg : PG X tg g) (hb : PSs X body tb)
    (hs : ∀ x, foldedSetIterable iter X.env x = pure x := by intro _; rfl) : PS X (.For tg iter body [] pos) (tFor wi g tb) := by
  intro pins s σ H D I h
  refine wpAny_For (thn (hi pins s σ H _ I h) fun v s1 h1 => thn h1 fun itv s2 h2 => ?_) hs
  obtain ⟨it, fp, tn, J, H2, e, I2, T, st2, f2, W, ⟨m0, w0⟩, turn⟩ := h2
  subst e
  -- what stays true of the iterator's objects through the loop
  have stat : ∀ {H' : Hp}, (∀ b ∈ fp, H' b = none) → ∀ b ∈ fp, FpOk X pins H' b := fun hn b hb => ⟨hn b hb, (f2 b hb).2⟩
  refine codeAny_forLoop_any (fun n s' => ∃ i σ' H', Inv X pins σ' H' s' ∧ tn i s'.heap ∧ (∀ b ∈ fp, H' b = none) ∧ W i n σ' H') ?_ m0 ⟨0, σ, H2, I2, st2, fun b hb => (f2 b hb).1, w0⟩
  rintro n s3 ⟨i, σ3, H3, I3, st3, fr3, w3⟩
  rcases turn i n σ3 H3 w3 with ⟨stop, qn⟩ | ⟨go, N, hN, step⟩
  · refine wpAny_passesOwn hp (thn (T.done X rfl rfl rfl hc i pins s3 σ3 H3 X.xe I3 (stat fr3) st3 stop) fun r s4 ⟨hr, I4⟩ => ?_)
    subst hr
    exact wpAny_execs_nil ⟨σ3, H3, I4, qn⟩
  · refine wpAny_passesOwn hp (thn (T.item X rfl rfl rfl hc i pins s3 σ3 H3 X.xe I3 (stat fr3) st3 go) fun r s4 ⟨u, hr, h4⟩ => ?_)
    subst hr
    refine wpAny_passesOwn hp (thn h4 fun _ s5 ⟨x, H5, I5, r5, y5, st5, fr5⟩ => ?_)
    have I5' := I5.pinned (stat fr5) (T.obj _ _ st5)
    refine wpAny_passesOwn hp (thn (hg _ s5 σ3 H5 x u _ I5' r5 (step x H5 y5)) fun _ s6 ⟨σ6, H6, I6, q6⟩ => ?_)
    refine wpAny_passesOwn hp (thn (hb _ s6 σ6 H6 _ I6 q6) fun f s7 q7 => ?_)
    have again : ∀ {σ7 : St} {H7 : Hp}, Inv X (pins ++ pinsAt fp s5.heap) σ7 H7 s7 → N σ7 H7 → ∃ m, m < n ∧ ∃ i σ' H', Inv X pins σ' H' s7 ∧ tn i s7.heap ∧ (∀ b ∈ fp, H' b = none) ∧ W i m σ' H' := fun {σ7 H7} I7 n7 => by
      obtain ⟨m', hm, w7⟩ := hN σ7 H7 n7
      refine ⟨m', hm, i + 1, σ7, H7, I7.unpinned, T.keep _ _ _ st5 fun b hb o e => (I7.pin (b, o) (List.mem_append_right _ (List.mem_append_right _ (mem_pinsAt hb e)))).1, fun b hb => ?_, w7⟩
      obtain ⟨o, e, d⟩ := T.obj _ _ st5 b hb
      exact (I7.pin (b, o) (List.mem_append_right _ (List.mem_append_right _ (mem_pinsAt hb e)))).2.1
    cases f with
    | next => obtain ⟨σ7, H7, I7, n7⟩ := q7; exact again I7 n7
    | cont => obtain ⟨σ7, H7, I7, n7⟩ := q7; exact again I7 n7
    | brk => obtain ⟨σ7, H7, I7, q7⟩ := q7; exact ⟨σ7, H7, I7.unpinned, q7⟩
    | ret v => obtain ⟨x7, σ7, H7, I7, r7, q7⟩ := q7; exact ⟨x7, σ7, H7, I7.unpinned, r7, q7⟩
end

/-! ### the forms one uses -/
theorem for_range {lo : Int} {n : Nat} {g : TG} {tb : TS} {D : Ends} {σ : St} {H : Hp} (Pv : Nat → St → Hp → Prop) (h0 : Pv 0 σ H)
    (hs : ∀ i σ H, i < n → Pv i σ H → g (.int (lo + i)) σ H fun σ2 H2 => tb { D with nx := Pv (i + 1), ct := Pv (i + 1), bk := D.nx } σ2 H2) (hd : ∀ σ H, Pv n σ H → D.nx σ H) :
    ∃ W : Nat → Nat → St → Hp → Prop, (∃ m, W 0 m σ H) ∧ ∀ i m σ H, W i m σ H →
      ((Itr lo n).stop i H ∧ D.nx σ H) ∨ ((Itr lo n).go i H ∧ ∃ N : St → Hp → Prop, (∀ σ' H', N σ' H' → ∃ m', m' < m ∧ W (i + 1) m' σ' H') ∧ ∀ x H', (Itr lo n).yld i H x H' → g x σ H' fun σ2 H2 => tb { D with nx := N, ct := N, bk := D.nx } σ2 H2) := by
  refine ⟨fun i m σ H => m = n - i ∧ i ≤ n ∧ Pv i σ H, ⟨n, by simp, Nat.zero_le _, h0⟩, ?_⟩
  rintro i m σ H ⟨rfl, hi, p⟩
  by_cases hlt : i < n
  · refine .inr ⟨hlt, Pv (i + 1), fun σ' H' p' => ⟨n - (i + 1), by omega, rfl, hlt, p'⟩, fun x H' y => ?_⟩
    obtain ⟨e, y⟩ := y
    subst e y
    exact hs i σ _ hlt p
  · have e : i = n := by omega
    subst e
    exact .inl ⟨Nat.le_refl _, hd σ H p⟩
end L2

namespace L2
open PySem PySem.Spec PyProof.Rows

abbrev R2 := V → V → Hp → VK → Prop
def OpR (X : Cx) (f : Value → Value → Sem Value) (r : R2) : Prop :=
  ∀ (pins : List (Addr × Obj)) (s : Shared) (σ : St) (H : Hp) (x y : V) (v u : Value) (Q : VK), Inv X pins σ H s → RelV x v → RelV y u → r x y H Q →
    wpAny (model X.prog X.w) X.A (f v u) (EP X pins σ Q) X.xe s
def CallR (X : Cx) (f : Value) (r : List V → Hp → VK → Prop) : Prop :=
  ∀ (pins : List (Addr × Obj)) (s : Shared) (σ : St) (H : Hp) (xs : List V) (us : List Value) (Q : VK), Inv X pins σ H s → Vals xs us → r xs H Q →
    wpAny (model X.prog X.w) X.A (call f us) (EP X pins σ Q) X.xe s
def tOp (r : R2) (ta tb : TE) : TE := fun σ H Q => ta σ H fun x H1 => tb σ H1 fun y H2 => r x y H2 Q
def rI (C : Int → Int → Prop) (g : Int → Int → V) : R2 := fun x y H Q => ∃ i j, x = .int i ∧ y = .int j ∧ C i j ∧ Q (g i j) H
def rI0 (g : Int → Int → V) : R2 := fun x y H Q => ∃ i j, x = .int i ∧ y = .int j ∧ Q (g i j) H
section
variable {X : Cx} {a b c : Expr} {ta tb tc : TE} {pos : Pos}

theorem binT (ha : PE X a ta) (hb : PE X b tb) {pins : List (Addr × Obj)} {s : Shared} {σ : St} {H : Hp} {R : V → V → Hp → Prop} (I : Inv X pins σ H s)
    (h : ta σ H fun x H1 => tb σ H1 fun y H2 => R x y H2) {Q : Value → Shared → Prop} {f : Value → Value → Sem Value}
    (hf : ∀ v u s2 x y H2, Inv X pins σ H2 s2 → RelV x v → RelV y u → R x y H2 → wpAny (model X.prog X.w) X.A (f v u) Q X.xe s2) :
    wpAny (model X.prog X.w) X.A (eval a X.env) (fun v s₁ => wpAny (model X.prog X.w) X.A (eval b X.env) (fun u s₂ => wpAny (model X.prog X.w) X.A (f v u) Q X.xe s₂) X.xe s₁) X.xe s := by
  refine thn (ha pins s σ H _ I h) fun v s1 ⟨x, H1, I1, r1, q1⟩ => ?_
  refine thn (hb pins s1 σ H1 _ I1 q1) fun u s2 ⟨y, H2, I2, r2, q2⟩ => ?_
  exact hf v u s2 x y H2 I2 r1 r2 q2

theorem pe_op {op : Operator} {r : R2} (ho : OpR X (binaryOp op) r) (ha : PE X a ta) (hb : PE X b tb) : PE X (.BinOp a op b pos) (tOp r ta tb) := by
  intro pins s σ H Q I h
  exact wpAny_BinOp (binT ha hb I h fun v u s2 x y H2 I2 rx ry q => ho pins s2 σ H2 x y v u Q I2 rx ry q)
/-! ### ints -/
theorem opI {f : Value → Value → Sem Value} {C : Int → Int → Prop} {g : Int → Int → Int}
    (rule : ∀ (i j : Int) (t u : Tok) (s : Shared) (Q : Value → Shared → Prop) (E : Value → Shared → Prop), C i j → Q (.int (g i j) s.toks) { s with toks := s.toks + 1 } → wpAny (model X.prog X.w) X.A (f (.int i t) (.int j u)) Q E s) :
    OpR X f (rI C fun i j => .int (g i j)) := by
  intro pins s σ H x y v u Q I rx ry h
  obtain ⟨i, j, rfl, rfl, hc, q⟩ := h
  obtain ⟨t, rfl⟩ := rx
  obtain ⟨t', rfl⟩ := ry
  exact rule i j t t' s _ _ hc ⟨.int (g i j), H, I.tok _, ⟨_, rfl⟩, q⟩
theorem opI0 {f : Value → Value → Sem Value} {g : Int → Int → Int}
    (rule : ∀ (i j : Int) (t u : Tok) (s : Shared) (Q : Value → Shared → Prop) (E : Value → Shared → Prop), Q (.int (g i j) s.toks) { s with toks := s.toks + 1 } → wpAny (model X.prog X.w) X.A (f (.int i t) (.int j u)) Q E s) :
    OpR X f (rI0 fun i j => .int (g i j)) := by
  intro pins s σ H x y v u Q I rx ry h
  obtain ⟨i, j, rfl, rfl, q⟩ := h
  obtain ⟨t, rfl⟩ := rx
  obtain ⟨t', rfl⟩ := ry
  exact rule i j t t' s _ _ ⟨.int (g i j), H, I.tok _, ⟨_, rfl⟩, q⟩
theorem opB0 {f : Value → Value → Sem Value} {g : Int → Int → Bool}
    (rule : ∀ (i j : Int) (t u : Tok) (s : Shared) (Q : Value → Shared → Prop) (E : Value → Shared → Prop), Q (.bool (g i j)) s → wpAny (model X.prog X.w) X.A (f (.int i t) (.int j u)) Q E s) :
    OpR X f (rI0 fun i j => .bl (g i j)) := by
  intro pins s σ H x y v u Q I rx ry h
  obtain ⟨i, j, rfl, rfl, q⟩ := h
  obtain ⟨t, rfl⟩ := rx
  obtain ⟨t', rfl⟩ := ry
  exact rule i j t t' s _ _ ⟨.bl (g i j), H, I, rfl, q⟩

def CDiv (i j : Int) : Prop := 0 < j ∧ j < 1073741824
def CMul (i j : Int) : Prop := (-(2 ^ 64) < i ∧ i < 2 ^ 64) ∨ (-(2 ^ 64) < j ∧ j < 2 ^ 64)
theorem CMul.ok {i j : Int} (h : CMul i j) : IntMulOk i j := by
  rcases h with ⟨h1, h2⟩ | ⟨h1, h2⟩
  · exact .of_left (intBits_le_64 h1 h2)
  · exact .of_right (intBits_le_64 h1 h2)
theorem op_add : OpR X (binaryOp .Add) (rI0 fun i j => .int (i + j)) := opI0 fun _ _ _ _ _ _ _ q => add_int q
theorem op_mul : OpR X (binaryOp .Mult) (rI CMul fun i j => .int (i * j)) := opI fun _ _ _ _ _ _ _ hc q => mul_int q hc.ok
theorem op_fdiv : OpR X (binaryOp .FloorDiv) (rI CDiv fun i j => .int (i / j)) := opI fun i j _ _ _ _ _ hc q => by
  have h1 : (0 : Int) < j := hc.1
  have h2 : j < 1073741824 := hc.2
  exact floordiv_int (by omega) (by rw [Int.fdiv_eq_ediv_of_nonneg i (by omega)]; exact q) (.inl (PyProof.noPylong_small (by omega)))
theorem op_mod : OpR X (binaryOp .Mod) (rI (fun _ j => 0 < j) fun i j => .int (i % j)) := opI fun i j _ _ _ _ _ hc q => by
  have h1 : (0 : Int) < j := hc
  exact mod_int' (by omega) (by rw [Int.fmod_eq_emod_of_nonneg i (by omega)]; exact q)
/-! ### bools among ints: n += (a < b) -/
end

/-! ### comparisons -/
def scal : V → V → Bool
  | .non, .non => true | .non, .int _ => true | .int _, .non => true | .non, .bl _ => true | .bl _, .non => true | .non, .str _ => true | .str _, .non => true
  | .int _, .int _ => true | .bl _, .bl _ => true | .str _, .str _ => true | .byt _, .byt _ => true
  | .int _, .str _ => true | .str _, .int _ => true | .bl _, .str _ => true | .str _, .bl _ => true
  | _, _ => false
def rEq : R2 := fun x y H Q => scal x y = true ∧ Q (.bl (decide (x = y))) H
theorem dec_int {i j : Int} : decide (V.int i = V.int j) = (i == j) := by
  rw [Bool.eq_iff_iff]
  simp
theorem dec_bl {i j : Bool} : decide (V.bl i = V.bl j) = (i == j) := by
  rw [Bool.eq_iff_iff]
  simp
theorem dec_str {i j : Str} : decide (V.str i = V.str j) = (i == j) := by
  rw [Bool.eq_iff_iff]
  simp
theorem dec_byt {i j : Array UInt8} : decide (V.byt i = V.byt j) = (i.toList == j.toList) := by
  rw [Bool.eq_iff_iff]
  cases i
  cases j
  simp

section
variable {X : Cx} {a b c : Expr} {ta tb tc : TE} {pos : Pos}
theorem fin_bl {pins : List (Addr × Obj)} {σ : St} {H : Hp} {s : Shared} {Q : VK} {k k' : Bool} (I : Inv X pins σ H s) (q : Q (.bl k) H) (e : k = k') : EP X pins σ Q (.bool k') s := by
  subst e
  exact ⟨.bl k, H, I, rfl, q⟩
theorem op_eq : OpR X (compareOp .Eq) rEq := by
  intro pins s σ H x y v u Q I rx ry h
  obtain ⟨hs, q⟩ := h
  cases x with
  | non =>
    cases rx
    cases y with
    | non => cases ry; exact PySem.EqNone.eq_none_none (fin_bl I q (by simp))
    | bl j => cases ry; exact PySem.EqNone.eq_none_bool (fin_bl I q (by simp))
    | int j => obtain ⟨t', rfl⟩ := ry; exact PySem.EqNone.eq_none_int (fin_bl I q (by simp))
    | str j => obtain ⟨t', rfl⟩ := ry; exact PySem.EqNone.eq_none_str (fin_bl I q (by simp))
    | _ => exact absurd (show false = true from hs) Bool.false_ne_true
  | bl i =>
    cases rx
    cases y with
    | non => cases ry; exact PySem.EqNone.eq_bool_none (fin_bl I q (by simp))
    | bl j => cases ry; exact eq_bool (fin_bl I q dec_bl)
    | str j => obtain ⟨t', rfl⟩ := ry; exact PySem.EqMixed.eq_bool_str (fin_bl I q (by simp))
    | _ => exact absurd (show false = true from hs) Bool.false_ne_true
  | int i =>
    obtain ⟨t, rfl⟩ := rx
    cases y with
    | non => cases ry; exact PySem.EqNone.eq_int_none (fin_bl I q (by simp))
    | int j => obtain ⟨t', rfl⟩ := ry; exact eq_int (fin_bl I q dec_int)
    | str j => obtain ⟨t', rfl⟩ := ry; exact PySem.EqMixed.eq_int_str (fin_bl I q (by simp))
    | _ => exact absurd (show false = true from hs) Bool.false_ne_true
  | str i =>
    obtain ⟨t, rfl⟩ := rx
    cases y with
    | non => cases ry; exact PySem.EqNone.eq_str_none (fin_bl I q (by simp))
    | bl j => cases ry; exact PySem.EqMixed.eq_str_bool (fin_bl I q (by simp))
    | int j => obtain ⟨t', rfl⟩ := ry; exact PySem.EqMixed.eq_str_int (fin_bl I q (by simp))
    | str j => obtain ⟨t', rfl⟩ := ry; exact eq_str (fin_bl I q dec_str)
    | _ => exact absurd (show false = true from hs) Bool.false_ne_true
  | byt i =>
    obtain ⟨t, rfl⟩ := rx
    cases y with
    | byt j => obtain ⟨t', rfl⟩ := ry; exact PySem.W.eq_bytes (fin_bl I q dec_byt)
    | _ => exact absurd (show false = true from hs) Bool.false_ne_true
  | _ => cases y <;> exact absurd (show false = true from hs) Bool.false_ne_true
theorem op_lt : OpR X (compareOp .Lt) (rI0 fun i j => .bl (decide (i < j))) := opB0 fun _ _ _ _ _ _ _ q => lt_int q
theorem op_gt : OpR X (compareOp .Gt) (rI0 fun i j => .bl (decide (j < i))) := opB0 fun _ _ _ _ _ _ _ q => gt_int q
theorem nomark (b : Expr) {op : CmpOp} (h : op ≠ .In := by decide) (h2 : op ≠ .NotIn := by decide) : behindInMarks op b = false := by
  have e1 : (op == CmpOp.In) = false := by cases op <;> first | rfl | exact absurd rfl h
  have e2 : (op == CmpOp.NotIn) = false := by cases op <;> first | rfl | exact absurd rfl h2
  cases b <;> simp [behindInMarks, e1, e2]
theorem pe_cmpR {op : CmpOp} {r : R2} (ho : OpR X (compareOp op) r) (ha : PE X a ta) (hb : PE X b tb) (hm : behindInMarks op b = false) : PE X (.Compare a [op] [b] pos) (tOp r ta tb) := by
  intro pins s σ H Q I h
  exact wpAny_Compare1 (binT ha hb I h fun v u s2 x y H2 I2 rx ry q => ho pins s2 σ H2 x y v u Q I2 rx ry q) hm
def tTest (t : TE) : TT := fun σ H Q => t σ H fun x H' => ∃ k, x = .bl k ∧ Q k H'
theorem pt_cmpR {op : CmpOp} {r : R2} (ho : OpR X (compareOp op) r) (ha : PE X a ta) (hb : PE X b tb) (hm : behindInMarks op b = false) : PT X (.Compare a [op] [b] pos) (tTest (tOp r ta tb)) := by
  intro pins s σ H Q I h
  refine wpAny_isTrue_Compare1 (thn (ha pins s σ H _ I h) fun v s1 ⟨x, H1, I1, r1, q1⟩ => thn (hb pins s1 σ H1 _ I1 q1) fun u s2 ⟨y, H2, I2, r2, q2⟩ =>
    thn (ho pins s2 σ H2 x y v u _ I2 r1 r2 q2) fun c s3 ⟨z, H3, I3, r3, k, e, q3⟩ => ?_) hm
  subst e
  cases r3
  exact wpAny_truthy_bool ⟨H3, I3, q3⟩
/-! ### truth -/
theorem line63 : (sizeLine : Nat) < 2 ^ 63 := by rw [sizeLine_eq]; decide
/-! ### strs and bytes -/
/-! ### scalar builtins, by CallR -/
theorem vals1 {x : V} {us : List Value} (r : Vals [x] us) : ∃ u, us = [u] ∧ RelV x u := by
  cases r with
  | cons r1 r2 => cases r2; exact ⟨_, rfl, r1⟩
theorem vals2 {x y : V} {us : List Value} (r : Vals [x, y] us) : ∃ u w', us = [u, w'] ∧ RelV x u ∧ RelV y w' := by
  cases r with
  | cons r1 r2 =>
    cases r2 with
    | cons r3 r4 => cases r4; exact ⟨_, _, rfl, r1, r3⟩
theorem call_max2 (hc : X.calm = true) : CallR X (.builtin "max") (fun xs H Q => ∃ i j, xs = [.int i, .int j] ∧ Q (.int (if j > i then j else i)) H) := by
  intro pins s σ H xs us Q I r h
  obtain ⟨i, j, rfl, q⟩ := h
  obtain ⟨u, w', rfl, ⟨t, rfl⟩, ⟨t', rfl⟩⟩ := vals2 r
  refine max_two_ints (I.ok.hd hc) fun h' tk k => ⟨_, H, I.kept k, ?_, q⟩
  by_cases hj : j > i
  · rw [if_pos hj, if_pos hj]; exact ⟨_, rfl⟩
  · rw [if_neg hj, if_neg hj]; exact ⟨_, rfl⟩
theorem call_min2 (hc : X.calm = true) : CallR X (.builtin "min") (fun xs H Q => ∃ i j, xs = [.int i, .int j] ∧ Q (.int (if j < i then j else i)) H) := by
  intro pins s σ H xs us Q I r h
  obtain ⟨i, j, rfl, q⟩ := h
  obtain ⟨u, w', rfl, ⟨t, rfl⟩, ⟨t', rfl⟩⟩ := vals2 r
  refine min_two_ints (I.ok.hd hc) fun h' tk k => ⟨_, H, I.kept k, ?_, q⟩
  by_cases hj : j < i
  · rw [if_pos hj, if_pos hj]; exact ⟨_, rfl⟩
  · rw [if_neg hj, if_neg hj]; exact ⟨_, rfl⟩
end
end L2

namespace L2
open PySem PySem.Spec PyProof.Rows

/-! ### an instance, its attributes a map -/
section
variable {prog : Program} {w : World} {A : Around} {E : Value → Shared → Prop} {s : Shared} {K : PySem.W.Frag} {x dx C f : Addr} {mA : Str → Option Value} {name : Str} {v : Value}

end

/-! ### the attributes as a list of pairs -/
def putF (f : Str) (v : V) : List (Str × V) → List (Str × V)
  | [] => [(f, v)]
  | (g, x) :: r => if g = f then (g, v) :: r else (g, x) :: putF f v r
section
variable {P : Program} {w : World} {H H' : Hp} {h h' : Heap} {a C dx : Addr} {fs fs' : List (Str × V)}
end

/-! ### what of the text a class must have -/
structure Cls (K : PySem.W.Frag) (C : Addr) : Prop where
  pg : PySem.W.plainGet K C Str.empty = true
  hd : PySem.W.hasDictIn K C = true
  po : PySem.W.plainOver K C = true
  sa : PySem.W.findIn K (.ref C) "__setattr__" = some (some (.builtin "object.__setattr__"))
section
variable {X : Cx} {pins : List (Addr × Obj)} {σ : St} {H : Hp} {s : Shared} {a C dx : Addr} {fs : List (Str × V)} {f : Str} {v : V} {A : Around} {E : Value → Shared → Prop}

end

/-! ### readings and rules -/
section
variable {X : Cx} {o e value : Expr} {f : Str} {pos pos' tpos : Pos} {ta tv : TE}
end

/-! ### isinstance -/
section
variable {X : Cx} {pins : List (Addr × Obj)} {σ : St} {H : Hp} {s : Shared} {A : Around} {E : Value → Shared → Prop} {Q : Value → Shared → Prop} {c : Value} {b : Bool}
inductive TyOf (K : PySem.W.Frag) (H : Hp) : V → Value → Prop where
  | non : TyOf K H .non (.type "NoneType")
  | bl (x : Bool) : TyOf K H (.bl x) (.type "bool")
  | int (i : Int) : TyOf K H (.int i) (.type "int")
  | str (x : Str) : TyOf K H (.str x) (.type "str")
  | flt (x : UInt64) : TyOf K H (.flt x) (.type "float")
  | lst {a : Addr} {xs : List V} (e : H a = some (.lst xs)) : TyOf K H (.ref a) (.type "list")
  | frz {a : Addr} {o : Obj} {xs : List V} (e : H a = some (.frz o (.lst xs))) : TyOf K H (.ref a) (.type "list")
  | tup {a : Addr} {xs : List V} (e : H a = some (.tup xs)) : TyOf K H (.ref a) (.type "tuple")
  | dK {a : Addr} {kvs : List (Key × V)} (e : H a = some (.dK kvs)) : TyOf K H (.ref a) (.type "dict")
  | dT {a : Addr} {kvs : List (List Key × V)} (e : H a = some (.dT kvs)) : TyOf K H (.ref a) (.type "dict")
  | ins {a C dx : Addr} {fs : List (Str × V)} (e : H a = some (.ins C dx fs)) (cl : Cls K C) (ha : PySem.W.findIn K (.ref C) "__class__" = some (some (.builtin "object.__class__")))
      (hn : PySem.W.specialIn K (.builtin "object.__class__") "__get__" = some (some (.builtin "getset_descriptor.__get__"))) (htk : PySem.W.takesIn K (.builtin "object.__class__") = some true)
      (hm : PySem.W.mroIn K C (.type "object") = some true) : TyOf K H (.ref a) (.ref C)
end
end L2

namespace L2
open PySem PySem.Spec PyProof.Rows

/-! ### room -/
structure Room (k : Nat) (A : Around) : Prop where
  hd : A.handled = none
  dp : A.depth + 3 * k + 5 < recursionLimit
  un : A.units + 16 * k + 200 < cLine
theorem Room.mono {j k : Nat} {A : Around} (r : Room k A) (h : j ≤ k) : Room j A := ⟨r.hd, by have := r.dp; omega, by have := r.un; omega⟩
theorem Room.deeper {k : Nat} {A : Around} (r : Room (k + 1) A) (env : Env) : Room k (A.deeper env) :=
  ⟨r.hd, by have := r.dp; show A.depth + 1 + 3 * k + 5 < _; omega, by have := r.un; show A.units + 3 + 16 * k + 200 < _; omega⟩
theorem Room.depth {k : Nat} {A : Around} (r : Room k A) : A.depth < recursionLimit := by have := r.dp; omega
theorem Room.units {k : Nat} {A : Around} (r : Room k A) : A.units + 64 < cLine := by have := r.un; omega
/-! ### argument lists and displays -/
def tNil : TA := fun _ H Q => Q [] H
def tCons (ta : TE) (tr : TA) : TA := fun σ H Q => ta σ H fun x H1 => tr σ H1 fun xs H2 => Q (x :: xs) H2
section
variable {X : Cx} {e : Expr} {es : List Expr} {te : TE} {t : TA} {pos : Pos}
theorem pa_nil : PA X [] tNil := fun _ _ _ _ H Q I h => Calls.spliced_nil ⟨[], H, I, .nil, h⟩
theorem pa_cons (ha : PE X e te) (hr : PA X es t) (hs : starEach (e :: es) X.env = (false, eval e X.env) :: starEach es X.env := by rfl) : PA X (e :: es) (tCons te t) := by
  intro pos pins s σ H Q I h
  rw [hs]
  show wpAny _ _ (spliced ((false, eval e X.env) :: backTo pos (starEach es X.env))) _ _ s
  refine Calls.spliced_cons (thn (ha pins s σ H _ I h) fun u s1 ⟨x, H1, I1, r1, q1⟩ => ?_)
  exact thn (hr pos pins s1 σ H1 _ I1 q1) fun us s2 ⟨xs, H2, I2, r2, q2⟩ => ⟨x :: xs, H2, I2, .cons r1 r2, q2⟩

def tTup (t : TA) : TE := fun σ H Q => t σ H fun xs H1 => xs.length ≤ sizeLine ∧ ∀ p, H1 p = none → Q (.ref p) (upd H1 p (.tup xs))
def tLst (t : TA) : TE := fun σ H Q => t σ H fun xs H1 => xs.length ≤ sizeLine ∧ ∀ p, H1 p = none → Q (.ref p) (upd H1 p (.lst xs))
theorem pe_tup {x1} (h : PA X es t) : PE X (.Tuple es x1 pos) (tTup t) := by
  intro pins s σ H Q I hq
  refine wpAny_Tuple_spliced (thn (h pos pins s σ H _ I hq) fun us s1 ⟨xs, H1, I1, r, z, q⟩ => ⟨by rw [← r.length]; exact z, ?_⟩)
  have hf : H1 s1.heap.objs.size = none := I1.hok.fresh (Nat.le_refl _)
  refine ⟨.ref s1.heap.objs.size, upd H1 s1.heap.objs.size (.tup xs), I1.laid (t' := s1.toks) (fun b u e => Heap.get?_push_of_some _ e) (Nat.le_refl _) ?_, rfl, q _ hf⟩
  exact ⟨z, us, r, ⟨_, Heap.get?_push_size _ rfl, rfl, _, rfl⟩⟩
theorem pe_lst (h : PA X es t) : PE X (.List es pos) (tLst t) := by
  intro pins s σ H Q I hq
  refine wpAny_List_spliced (thn (h pos pins s σ H _ I hq) fun us s1 ⟨xs, H1, I1, r, z, q⟩ => ⟨by rw [← r.length]; exact z, ?_⟩)
  have hf : H1 s1.heap.objs.size = none := I1.hok.fresh (Nat.le_refl _)
  refine ⟨.ref s1.heap.objs.size, upd H1 s1.heap.objs.size (.lst xs), I1.laid (t' := s1.toks) (fun b u e => Heap.get?_push_of_some _ e) (Nat.le_refl _) ?_, rfl, q _ hf⟩
  exact ⟨z, us, 0, r, Heap.get?_push_size _ rfl⟩
end

/-! ### what a def promises -/
abbrev Sp := List V → Hp → VK → XK → Prop
abbrev CXT := List Env → Hp → Shared → XK → Value → Shared → Prop

structure Env0 (P : Program) (w : World) (K : PySem.W.Frag) (mg : Str → Option Value) (base : Heap) (A : Around) (outer : List Env) (s : Shared) (H : Hp) : Prop where
  frames : A.frames = some outer
  mod : Mod K mg base
  bs : ∀ b o, base.get? b = some o → s.heap.get? b = some o ∧ H b = none
  bsz : base.objs.size ≤ s.heap.objs.size
  funs : s.heap.FunFrames base outer
  frf : ∀ b ∈ frs outer, H b = none
  hok : HOk P w H s.heap
  bare : AllBare s.gens
def CE (outer : List Env) (P : Program) (w : World) (H : Hp) (s : Shared) (Q : VK) (u : Value) (s' : Shared) : Prop :=
  ∃ v H', s'.os = s.os ∧ AllBare s'.gens ∧ Un (frs outer) [] H H' s.heap s'.heap ∧ HOk P w H' s'.heap ∧ RelV v u ∧ Q v H'
def CR (CX : CXT) (outer : List Env) (P : Program) (w : World) (H : Hp) (s : Shared) (Q : VK) (E : XK) (r : Result) (s' : Shared) : Prop :=
  match r with
  | .ok (.ret u) => CE outer P w H s Q u s'
  | .ok _ => False
  | .error e => CX outer H s E e s'
structure FnOk (P : Program) (w : World) (K : PySem.W.Frag) (mg : Str → Option Value) (base : Heap) (CX : CXT) (k : Nat) (f : Addr) (fd : FuncData) (ps : List Str) (sp : Sp) : Prop where
  len : ∀ vs H Q E, sp vs H Q E → vs.length = ps.length
  run : ∀ (A : Around) (outer : List Env) (s : Shared) (H : Hp) (args : Args) (us : List Value) (vs : List V) (Q : VK) (E : XK), Room k A → Env0 P w K mg base A outer s H → BindsTo s fd args (ps.zip us) → Vals vs us → sp vs H Q E →
    codeAny (model P w) A (.call (.ref f) args) (CR CX outer P w H s Q E) s
section
variable {X : Cx} {pins : List (Addr × Obj)} {σ : St} {H : Hp} {s s' : Shared}
theorem Inv.env0 (I : Inv X pins σ H s) : Env0 X.prog X.w X.K X.mg X.base X.A X.stack s H :=
  ⟨I.ok.frames, I.ok.mod, I.bs, Nat.le_trans I.ok.bsz I.sz, I.stack, I.stkFree, I.hok, I.bare⟩
theorem Inv.after {Q : VK} {u : Value} (I : Inv X pins σ H s) (h : CE X.stack X.prog X.w H s Q u s') : EP X pins σ Q u s' := by
  obtain ⟨v, H', os, bare, un, hok, r, q⟩ := h
  obtain ⟨hh, g, d, t, os'⟩ := s'
  obtain rfl : os' = s.os := os
  exact ⟨v, H', I.call (h' := hh) (g' := g) (d' := d) (t' := t) (ch := []) un hok bare (fun b z => absurd z (by simp)), r, q⟩
end

/-! ### calls -/
def Binds (K : PySem.W.Frag) (fd : FuncData) (ps : List Str) (ds : List Value) : Prop :=
  ∀ (s : Shared) (us : List Value), K.In s.heap → (us ++ ds).length = ps.length → BindsTo s fd ⟨us, []⟩ (ps.zip (us ++ ds))
theorem Binds.all {K : PySem.W.Frag} {fd : FuncData} {ps : List Str} (h : ∀ us : List Value, us.length = ps.length → bindArgs fd ⟨us, []⟩ = pure (ps.zip us)) : Binds K fd ps [] := fun s us _ hl => by
  rw [List.append_nil] at hl ⊢
  exact .of_eq (h us hl)

def Passes (CX : CXT) (X : Cx) (E : XK) : Prop := ∀ (pins : List (Addr × Obj)) (σ : St) (H : Hp) (s : Shared) (e : Value) (s' : Shared), Inv X pins σ H s → CX X.stack H s E e s' → X.xe e s'

section
variable {X : Cx} {CX : CXT} {k : Nat} {f C : Addr} {fd : FuncData} {ps : List Str} {sp : Sp} {dvs : List V} {ds : List Value} {E : XK} {x m : Str} {p pos apos : Pos} {e o : Expr} {es : List Expr} {ta : TE} {t : TA}

theorem run_fn {pins : List (Addr × Obj)} {σ : St} {H : Hp} {s : Shared} {Q : VK} {us : List Value} {vs : List V} (F : FnOk X.prog X.w X.K X.mg X.base CX k f fd ps sp) (hr : Room k X.A) (hb : Binds X.K fd ps ds) (hd : Vals dvs ds) (hx : Passes CX X E)
    (I : Inv X pins σ H s) (r : Vals vs us) (h : sp (vs ++ dvs) H Q E) : wpAny (model X.prog X.w) X.A (call (.ref f) us) (EP X pins σ Q) X.xe s := by
  have r2 : Vals (vs ++ dvs) (us ++ ds) := r.append hd
  have hl : (us ++ ds).length = ps.length := by rw [← r2.length]; exact F.len _ _ _ _ h
  refine wpAny_call (codeAny_mono (F.run X.A X.stack s H ⟨us, []⟩ (us ++ ds) (vs ++ dvs) Q E hr I.env0 (hb s us I.kIn hl) r2 h) fun r s' hq => ?_)
  cases r with
  | error e => exact hx pins σ H s e s' I hq
  | ok fl =>
    cases fl with
    | ret u => exact I.after hq
    | next => exact False.elim hq
    | brk => exact False.elim hq
    | cont => exact False.elim hq

structure Mk (K : PySem.W.Frag) (C f : Addr) : Prop where
  makes : PySem.W.makesIn K C = true
  init : PySem.W.findIn K (.ref C) "__init__" = some (some (.ref f))
  fn : PySem.W.isFn K (.ref f) = true
  kp : PySem.W.keepIn K (.ref C) = true

end

/-! ### keywords -/
section
variable {X : Cx} {CX : CXT} {k : Nat} {f C : Addr} {fd : FuncData} {ps ks : List Str} {sp : Sp} {E : XK} {x m : Str} {p pos apos kpos : Pos} {e o : Expr} {es : List Expr} {kws : List Keyword} {te ta : TE} {t tk : TA} {nm : Option Str}
variable {g : List Value → List Value → List Value} {gV : List V → List V → List V}
end

/-! ### a def's body keeps its promise -/
structure FnScope (N P : List Str) (sc : Scope) : Prop where
  kind : sc.kind = .function
  co : sc.isCoroutine = false
  gen : sc.isGenerator = false
  nd : N.Nodup
  pre : N.take P.length = P
  par : ∀ x ∈ P, sc.names.lookup x = some .local ∨ sc.names.lookup x = some .cell
  nofree : ∀ y ∈ sc.names, y.2 ≠ .free

theorem bindL_out {kindOf : Str → Option NameKind} {x : Str} : ∀ {binds : List (Str × Value)} {m : Str → Option Value}, (∀ v, (x, v) ∉ binds) → bindL kindOf binds m x = m x
  | [], _, _ => rfl
  | (n, v) :: r, m, h => by
    unfold bindL
    rw [bindL_out fun w hw => h w (List.mem_cons_of_mem _ hw)]
    split
    · have : x ≠ n := by rintro rfl; exact h v List.mem_cons_self
      simp [this]
    · rfl
theorem bindC_out {kindOf : Str → Option NameKind} {x : Str} : ∀ {binds : List (Str × Value)} {m : Str → Option Value}, (∀ v, (x, v) ∉ binds) → bindC kindOf binds m x = m x
  | [], _, _ => rfl
  | (n, v) :: r, m, h => by
    unfold bindC
    rw [bindC_out fun w hw => h w (List.mem_cons_of_mem _ hw)]
    split
    · rfl
    · have : x ≠ n := by rintro rfl; exact h v List.mem_cons_self
      simp [this]
theorem bindL_get {kindOf : Str → Option NameKind} {x : Str} {v : Value} : ∀ {P : List Str} {vs : List Value} {i : Nat} {m : Str → Option Value}, P.Nodup → P[i]? = some x → vs[i]? = some v → kindOf x = some .local →
    bindL kindOf (P.zip vs) m x = some v
  | [], _, _, _, _, h, _, _ => by simp at h
  | _ :: _, [], _, _, _, _, h, _ => by simp at h
  | p :: P, w :: vs, 0, m, nd, h1, h2, hk => by
    simp at h1 h2; subst h1; subst h2
    show bindL kindOf ((p, w) :: P.zip vs) m p = _
    unfold bindL
    rw [bindL_out fun v hv => (List.nodup_cons.mp nd).1 (List.of_mem_zip hv).1, if_pos hk]
    simp
  | p :: P, w :: vs, i + 1, m, nd, h1, h2, hk => by
    show bindL kindOf ((p, w) :: P.zip vs) m x = _
    unfold bindL
    exact bindL_get (i := i) (List.nodup_cons.mp nd).2 (by simpa using h1) (by simpa using h2) hk
theorem bindC_get {kindOf : Str → Option NameKind} {x : Str} {v : Value} : ∀ {P : List Str} {vs : List Value} {i : Nat} {m : Str → Option Value}, P.Nodup → P[i]? = some x → vs[i]? = some v → kindOf x ≠ some .local →
    bindC kindOf (P.zip vs) m x = some v
  | [], _, _, _, _, h, _, _ => by simp at h
  | _ :: _, [], _, _, _, _, h, _ => by simp at h
  | p :: P, w :: vs, 0, m, nd, h1, h2, hk => by
    simp at h1 h2; subst h1; subst h2
    show bindC kindOf ((p, w) :: P.zip vs) m p = _
    unfold bindC
    rw [bindC_out fun v hv => (List.nodup_cons.mp nd).1 (List.of_mem_zip hv).1, if_neg hk]
    simp
  | p :: P, w :: vs, i + 1, m, nd, h1, h2, hk => by
    show bindC kindOf ((p, w) :: P.zip vs) m x = _
    unfold bindC
    exact bindC_get (i := i) (List.nodup_cons.mp nd).2 (by simpa using h1) (by simpa using h2) hk

def start (N : List Str) (vs : List V) : St := vs.map some ++ List.replicate (N.length - vs.length) none

def cxOf (CX : CXT) (P : Program) (w : World) (K : PySem.W.Frag) (mg : Str → Option Value) (base : Heap) (N : List Str) (qual : Str) (scope : Scope) (f : Addr) (cd : Value) (A : Around) (outer : List Env) (s : Shared) (H : Hp) (E : XK) : Cx where
  prog := P
  w := w
  K := K
  mg := mg
  base := base
  A := A.deeper (envOfC qual scope s.heap.objs.size f cd)
  N := N
  s₀ := s
  H₀ := H
  env := envOfC qual scope s.heap.objs.size f cd
  outer := outer
  stack := envOfC qual scope s.heap.objs.size f cd :: outer
  ex := []
  calm := true
  fn := fun _ => true
  pn := []
  xe := fun e s' => wpAny (model P w) (A.deeper (envOfC qual scope s.heap.objs.size f cd)) (leaving (envOfC qual scope s.heap.objs.size f cd) e) (fun _ s'' => CX outer H s E e s'') (fun e' s'' => CX outer H s E e' s'') s'

theorem cell_has {sc : Scope} {n : Nat} {x : Str} (h : sc.names.lookup x = some .cell) : ∃ c, (cellsFrom n sc.names []).lookup x = some c := by
  have q := PySem.W.cellsFrom_some sc.names n [] (.inl h)
  exact Option.isSome_iff_exists.mp q

theorem inv_start {CX : CXT} {P : Program} {w : World} {K : PySem.W.Frag} {mg : Str → Option Value} {base : Heap} {N ps : List Str} {qual : Str} {scope : Scope} {f : Addr} {cd : Value} {A : Around} {outer : List Env} {s s1 : Shared} {H : Hp} {E : XK} {us : List Value} {vs : List V}
    (S : FnScope N ps scope) (hd : A.handled = none) (e0 : Env0 P w K mg base A outer s H) (hl : vs.length = ps.length) (r : Vals vs us)
    (x : InCallC s s.heap.objs.size (bindL (envOfC qual scope s.heap.objs.size f cd).kindOf (ps.zip us) fun _ => none) (cellsFrom (s.heap.objs.size + 1) scope.names []) (bindC (envOfC qual scope s.heap.objs.size f cd).kindOf (ps.zip us) fun _ => none) s1) :
    Inv (cxOf CX P w K mg base N qual scope f cd A outer s H E) [] (start N vs) H s1 := by
  have hpl : ps.length ≤ N.length := by have := congrArg List.length S.pre; rw [List.length_take] at this; omega
  obtain ⟨h1, tk, rfl, hk⟩ := x.done
  have noA : ∀ b : Addr, b ∉ (cxOf CX P w K mg base N qual scope f cd A outer s H E).ex := fun b z => absurd (show b ∈ ([] : List Addr) from z) (by simp)
  refine ⟨⟨e0.mod, S.kind, rfl, rfl, Nat.le_refl _, fun y z c h1 h2 => ?_, fun y hy => ?_, fun y c _ h => ?_, fun _ => hd, Around.frames_deeper e0.frames, .inr ⟨rfl, rfl⟩, fun b z => absurd z (noA b), e0.bs, e0.bsz, fun b _ _ => noA b, fun b z => absurd z (noA b), e0.funs, e0.frf⟩,
    rfl, e0.bare, Un.kept hk, ⟨_, x.toInCall.ns, fun i y v h1 h2 h3 => ?_⟩, fun y c h => ⟨_, x.cell y c h⟩, e0.hok.fresh (Nat.le_refl _), fun y c h => ?_, fun p hp => absurd (show p ∈ ([] : List (Addr × Obj)) from hp) (by simp), e0.hok.kept hk, ?_⟩
  · exact name_of_addr x.apart (PySem.mem_of_lookup h1) (PySem.mem_of_lookup h2)
  · have hy : scope.names.lookup y = some .cell ∨ scope.names.lookup y = some .free := hy
    rcases hy with hy | hy
    · exact cell_has hy
    · exact absurd rfl (S.nofree _ (PySem.mem_of_lookup hy))
  · exact Nat.le_of_lt (x.above y c (PySem.mem_of_lookup h))
  · have hi : i < vs.length := by
      unfold start at h2
      by_cases hi : i < vs.length
      · exact hi
      · rw [List.getElem?_append_right (by simpa using hi)] at h2
        rw [List.getElem?_replicate] at h2
        split at h2 <;> cases h2
    have ha : vs[i]? = some v := by
      unfold start at h2
      rw [List.getElem?_append_left (by simpa using hi), List.getElem?_map] at h2
      cases e : vs[i]? with
      | none => rw [e] at h2; cases h2
      | some a => rw [e] at h2; cases h2; rfl
    obtain ⟨u, hu, rv⟩ := r.get ha
    have hp : ps[i]? = some y := by
      rw [← S.pre, List.getElem?_take_of_lt (by omega)]; exact h1
    have ndP : ps.Nodup := by rw [← S.pre]; exact S.nd.sublist (List.take_sublist _ _)
    refine ⟨u, rv, ?_⟩
    rcases S.par y (List.mem_of_getElem? hp) with k | k
    · exact .inl ⟨k, bindL_get ndP hp hu k⟩
    · obtain ⟨c, e⟩ := cell_has (n := s.heap.objs.size + 1) k
      refine .inr ⟨.inl k, c, e, ?_⟩
      have q := x.cell y c e
      rw [bindC_get ndP hp hu (by show scope.names.lookup y ≠ _; rw [k]; decide)] at q
      exact q
  · exact e0.hok.fresh (Nat.le_of_lt (x.above y c (PySem.mem_of_lookup h)))
  · unfold start
    show _ = N.length
    rw [List.length_append, List.length_map, List.length_replicate]
    omega

theorem fn_of {CX : CXT} {P : Program} {w : World} {K : PySem.W.Frag} {mg : Str → Option Value} {base : Heap} {k : Nat} {f : Addr} {name qual : Str} {params : Arguments} {body : List Stmt} {scope : Scope} {dV kV doc pm cdv ct oc : Value} {an od : Option Addr}
    {osl : Array (Option Value)} {N ps : List Str} {sp : Sp} (lk : K.lookup f = some ⟨oc, od, .func (PySem.W.fnOf name qual params body scope dV kV doc pm an cdv ct), osl⟩) (hcd : PySem.W.codeIn K cdv qual = true) (S : FnScope N ps scope)
    (len : ∀ vs H Q E, sp vs H Q E → vs.length = ps.length)
    (hbody : ∀ (A : Around) (outer : List Env) (s : Shared) (H : Hp) (vs : List V) (Q : VK) (E : XK), Room k (A.deeper (envOfC qual scope s.heap.objs.size f cdv)) → sp vs H Q E →
      ∃ t, PSs (cxOf CX P w K mg base N qual scope f cdv A outer s H E) body t ∧ t { nx := fun _ H' => Q .non H', rt := Q } (start N vs) H) :
    FnOk P w K mg base CX (k + 1) f (PySem.W.fnOf name qual params body scope dV kV doc pm an cdv ct) ps sp := by
  refine ⟨len, fun A outer s H args us vs Q E hr e0 hb r hsp => ?_⟩
  have hl := len _ _ _ _ hsp
  have KX : K.In s.heap := e0.mod.kin.keeps fun b o e => (e0.bs b o e).1
  have lim : s.heap.NoLimit := e0.mod.nolimit.keeps fun b o e => (e0.bs b o e).1
  have hkind : ∀ y ∈ ps.zip us, scope.names.lookup y.1 = some .local ∨ (scope.names.lookup y.1 = some .cell ∧ ((cellsFrom (s.heap.objs.size + 1) scope.names []).lookup y.1).isSome = true) := fun ⟨n, v⟩ hy => by
    rcases S.par n (List.of_mem_zip hy).1 with q | q
    · exact .inl q
    · exact .inr ⟨q, PySem.W.cellsFrom_some _ _ _ (.inl q)⟩
  refine codeAny_call_function hr.depth (KX _ _ lk) rfl S.co S.gen rfl (PySem.W.codeRec_of KX hcd) (hb _ _ _ _ ?_)
  refine wpAny_newFunctionEnv_cells S.kind hkind fun env he s1 x => ?_
  subst he
  refine ⟨lim.keeps x.toInCall.keep, codeAny_func ?_⟩
  obtain ⟨t, ht, hq⟩ := hbody A outer s H vs Q E (hr.deeper _) hsp
  have I : Inv (cxOf CX P w K mg base N qual scope f cdv A outer s H E) [] (start N vs) H s1 := inv_start S hr.hd e0 hl r x
  refine wpAny_mono (ht [] s1 (start N vs) H _ I hq) (fun fl s' hs => ?_) fun e s' hs => hs
  have fin : ∀ {σ' : St} {H' : Hp} {v : V} {u : Value}, Inv (cxOf CX P w K mg base N qual scope f cdv A outer s H E) [] σ' H' s' → RelV v u → Q v H' → CE outer P w H s Q u s' :=
    fun {σ' H' v u} J rv q => ⟨v, H', J.os, J.bare, J.base, J.hok, rv, q⟩
  cases fl with
  | ret u =>
    obtain ⟨v, σ', H', J, rv, q⟩ := hs
    exact fin J rv q
  | next =>
    obtain ⟨σ', H', J, q⟩ := hs
    exact fin (v := V.non) (u := Value.none) J rfl q
  | brk =>
    obtain ⟨_, _, _, q⟩ := hs
    exact False.elim q
  | cont =>
    obtain ⟨_, _, _, q⟩ := hs
    exact False.elim q
end L2

namespace L2
open PySem PySem.Spec PyProof.Rows
section
variable {X : Cx} {x : Str} {p pos : Pos} {e : Expr} {es : List Expr} {t : TA} {id T : String} {r : List V → Hp → VK → Prop}

def tCB (r : List V → Hp → VK → Prop) (t : TA) : TE := fun σ H Q => t σ H fun vs H1 => r vs H1 Q
theorem pe_callB (hc : CallR X (.builtin id) r) (hg : Gl X x) (hm : X.mg x = none) (hv : bootBuiltins x = some (.builtin id)) (ha : PA X (e :: es) t) (hn : x ≠ "__name__" := by decide) (hdb : (x == ("__debug__" : Str)) = false := by decide)
    (he : starEach (e :: es) X.env = (false, eval e X.env) :: starEach es X.env := by rfl) (hpl : (backTo pos (starEach es X.env)).any (·.1) = false := by rfl) : PE X (.Call (.Name x p) (e :: es) [] pos) (tCB r t) := by
  intro pins s σ H Q I h
  refine wpAny_Call_Name_kw (ld_blt I hg hm hv ?_ hn hdb)
  exact PyProof.Rows.callWith_builtin1 (thn (ha pos pins s σ H _ I h) fun us s1 ⟨vs, H1, I1, r1, q1⟩ => hc pins s1 σ H1 vs us Q I1 r1 q1) he hpl
theorem pe_callTy (hc : CallR X (.type T) r) (hg : Gl X x) (hm : X.mg x = none) (hv : bootBuiltins x = some (.type T)) (ha : PA X (e :: es) t) (hn : x ≠ "__name__" := by decide) (hdb : (x == ("__debug__" : Str)) = false := by decide)
    (he : starEach (e :: es) X.env = (false, eval e X.env) :: starEach es X.env := by rfl) (hpl : (backTo pos (starEach es X.env)).any (·.1) = false := by rfl) : PE X (.Call (.Name x p) (e :: es) [] pos) (tCB r t) := by
  intro pins s σ H Q I h
  refine wpAny_Call_Name_kw (ld_blt I hg hm hv ?_ hn hdb)
  exact PyProof.Rows.callWith_type1 (thn (ha pos pins s σ H _ I h) fun us s1 ⟨vs, H1, I1, r1, q1⟩ => hc pins s1 σ H1 vs us Q I1 r1 q1) he hpl
end
end L2

namespace HT
open PySem PyProof.Rows

def lexLt : List Int → List Int → Bool
  | [], [] => false
  | [], _ :: _ => true
  | _ :: _, [] => false
  | x :: xs, y :: ys => if x = y then lexLt xs ys else decide (x < y)
section
open PySem.SeqAt
open PySem.AutoSeq1 (wpAny_loadPart')
open PySem.MeetsSeq PySem.MeetsSeq2 PySem.MeetsSeq3

end

section
variable {prog : Program} {w : World} {A : Around} {E : Value → Shared → Prop} {s : Shared}

/-! ### t[a:b], not the whole -/
def sIx (n d : Nat) : Option Int → Nat
  | none => d
  | some v => if v < 0 then (v + (n : Int)).toNat else min v.toNat n
theorem sIx_le (n d : Nat) (hd : d ≤ n) (o : Option Int) : sIx n d o ≤ n := by
  cases o with
  | none => exact hd
  | some v =>
    show (if v < 0 then (v + (n : Int)).toNat else min v.toNat n) ≤ n
    by_cases hv : v < 0
    · rw [if_pos hv]; omega
    · rw [if_neg hv]; exact Nat.min_le_right _ _
end
end HT

namespace L2
open PySem PySem.Spec PyProof.Rows

/-! ### the parts of a slice -/
abbrev TO := St → Hp → (Option Int → Hp → Prop) → Prop
def PO (X : Cx) (e : Option Expr) (t : TO) : Prop :=
  ∀ (pins : List (Addr × Obj)) (s : Shared) (σ : St) (H : Hp) (Q : Option Int → Hp → Prop), Inv X pins σ H s → t σ H Q →
    wpAny (model X.prog X.w) X.A (evalPart e X.env) (fun u s' => ∃ o H', Inv X pins σ H' s' ∧ IsPart u o ∧ Q o H') X.xe s
def tNoPart : TO := fun _ H Q => Q none H
def tPart (t : TE) : TO := fun σ H Q => t σ H fun x H1 => ∃ i, x = .int i ∧ Q (some i) H1

section
variable {X : Cx} {e : Expr} {te : TE} {lo hi : Option Expr} {tl th : TO} {pos p2 : Pos}

theorem po_none : PO X none tNoPart := by
  intro pins s σ H Q I h
  rw [evalPart_none]
  exact wpAny_pure ⟨none, H, I, .none, h⟩
theorem po_some (h : PE X e te) : PO X (some e) (tPart te) := by
  intro pins s σ H Q I hw
  rw [evalPart_some]
  refine thn (h pins s σ H _ I hw) fun u s1 ⟨x, H1, I1, r1, q1⟩ => ?_
  obtain ⟨i, rfl, q⟩ := q1
  obtain ⟨t, rfl⟩ := r1
  exact ⟨some i, H1, I1, .int i t, q⟩

def SlR (X : Cx) (r : V → Option Int → Option Int → Hp → VK → Prop) : Prop :=
  ∀ (pins : List (Addr × Obj)) (s : Shared) (σ : St) (H : Hp) (x : V) (v vl vu : Value) (lo hi : Option Int) (sl : Addr) (Q : VK), Inv X pins σ H s → RelV x v → s.heap.IsSliceOf sl vl vu .none → IsPart vl lo → IsPart vu hi → r x lo hi H Q →
    ∃ T id, typeLookup (.type T) "__getitem__" = pure (some (.builtin id)) ∧ s.TypeIs v T ∧ wpAny (model X.prog X.w) X.A (getItem v (.ref sl)) (EP X pins σ Q) X.xe s
def tSl (r : V → Option Int → Option Int → Hp → VK → Prop) (te : TE) (tl th : TO) : TE := fun σ H Q => te σ H fun x H1 => tl σ H1 fun l H2 => th σ H2 fun u H3 => r x l u H3 Q
theorem pe_slice {r : V → Option Int → Option Int → Hp → VK → Prop} (hr : SlR X r) (he : PE X e te) (hl : PO X lo tl) (hu : PO X hi th) : PE X (.Subscript e (.Slice lo hi none p2) pos) (tSl r te tl th) := by
  intro pins s σ H Q I h
  refine Subscript_ (thn (he pins s σ H _ I h) fun v s1 ⟨x, H1, I1, r1, q1⟩ => ?_)
  refine wpAny_Slice (thn (hl pins s1 σ H1 _ I1 q1) fun vl s2 ⟨l, H2, I2, pl, q2⟩ => thn (hu pins s2 σ H2 _ I2 q2) fun vu s3 ⟨u, H3, I3, pu, q3⟩ => ?_)
  rw [evalPart_none]
  refine wpAny_pure ?_
  have I4 : Inv X pins σ H3 { s3 with heap := s3.heap.push { cls := .type "slice", data := .fields #[vl, vu, .none] } } := I3.kept (t' := s3.toks) fun b ob q => Heap.get?_push_of_some _ q
  obtain ⟨T, id, hT, ht, hg⟩ := hr pins { s3 with heap := s3.heap.push { cls := .type "slice", data := .fields #[vl, vu, .none] } } σ H3 x v vl vu l u s3.heap.objs.size Q I4 r1 (Heap.IsSliceOf.new ..) pl pu q3
  show wpAny (model X.prog X.w) X.A (subscriptTail e (.Slice lo hi none p2) v (.ref s3.heap.objs.size)) (EP X pins σ Q) X.xe { s3 with heap := s3.heap.push { cls := .type "slice", data := .fields #[vl, vu, .none] } }
  exact tail_any (ops := [.ref s3.heap.objs.size, v]) ht hT hg (by with_unfolding_all rfl)

/-! ### t < u, t + u -/
end
end L2

namespace L2
open PySem PySem.Spec PyProof.Rows

/-! ### places -/
def ixN (n : Nat) (i : Int) : Option Nat := if 0 ≤ i then (if i < n then some i.toNat else none) else if -(n : Int) ≤ i then some (i + n).toNat else none
def atI {α : Type} (xs : List α) (i : Int) : Option α := (ixN xs.length i).bind fun j => xs[j]?
theorem ixN_seq {n : Nat} {i : Int} {j : Nat} (h : ixN n i = some j) : seqIndex? i n = some j ∧ j < n ∧ -(n : Int) ≤ i ∧ i < n := by
  unfold ixN at h
  by_cases h0 : 0 ≤ i
  · rw [if_pos h0] at h
    by_cases h1 : i < n
    · rw [if_pos h1] at h
      have e : i.toNat = j := Option.some.inj h
      exact ⟨by rw [seqIndex_of h0 h1, e], by omega, by omega, h1⟩
    · rw [if_neg h1] at h; cases h
  · rw [if_neg h0] at h
    by_cases h1 : -(n : Int) ≤ i
    · rw [if_pos h1] at h
      have e : (i + n).toNat = j := Option.some.inj h
      exact ⟨by rw [seqIndex_neg (by omega) h1, e], by omega, h1, by omega⟩
    · rw [if_neg h1] at h; cases h
theorem atI_get {α : Type} {xs : List α} {i : Int} {v : α} (h : atI xs i = some v) : ∃ j, seqIndex? i xs.length = some j ∧ xs[j]? = some v ∧ j < xs.length ∧ -(xs.length : Int) ≤ i ∧ i < xs.length := by
  unfold atI at h
  cases e : ixN xs.length i with
  | none => rw [e] at h; cases h
  | some j =>
    rw [e] at h
    obtain ⟨h1, h2, h3, h4⟩ := ixN_seq e
    exact ⟨j, h1, h, h2, h3, h4⟩
theorem atI_nat {α : Type} {xs : List α} {j : Nat} {v : α} (h : xs[j]? = some v) : atI xs (j : Int) = some v := by
  have hj : j < xs.length := (List.getElem?_eq_some_iff.mp h).1
  have e : ixN xs.length (j : Int) = some j := by
    unfold ixN
    rw [if_pos (by omega), if_pos (by omega)]; simp
  unfold atI; rw [e]; exact h
/-! ### what may be subscripted -/
def PlainIx (b : Expr) : Prop := ∀ o i, subscripted b false o i = operate [o, i] (getItem o i)
def IxR (X : Cx) (r : R2) : Prop :=
  ∀ (value slice : Expr) (pins : List (Addr × Obj)) (s : Shared) (σ : St) (H : Hp) (x y : V) (v u : Value) (Q : VK), Inv X pins σ H s → RelV x v → RelV y u → r x y H Q →
    subscripted slice false v u = operate [v, u] (getItem v u) → wpAny (model X.prog X.w) X.A (subscriptTail value slice v u) (EP X pins σ Q) X.xe s
def MtR (X : Cx) (id : String) (r : V → List V → Hp → VK → Prop) : Prop :=
  ∀ (pins : List (Addr × Obj)) (s : Shared) (σ : St) (H : Hp) (x : V) (xs : List V) (v : Value) (us : List Value) (Q : VK), Inv X pins σ H s → RelV x v → Vals xs us → r x xs H Q →
    wpAny (model X.prog X.w) X.A (call (.builtin id) (v :: us)) (EP X pins σ Q) X.xe s
section
variable {X : Cx} {a b : Expr} {ta tb : TE} {pos : Pos}
theorem pe_ix {r : R2} (hr : IxR X r) (ha : PE X a ta) (hb : PE X b tb) (hs : PlainIx b) : PE X (.Subscript a b pos) (tOp r ta tb) := by
  intro pins s σ H Q I h
  exact Subscript_ (binT ha hb I h fun v u s2 x y H2 I2 rx ry q => hr a b pins s2 σ H2 x y v u Q I2 rx ry q (hs _ _))

def rIxL (K : PySem.W.Frag) : R2 := fun x y H Q => ∃ p xs i v, x = .ref p ∧ y = .int i ∧ SqL K H p xs ∧ atI xs i = some v ∧ Q v H
def rIxT (K : PySem.W.Frag) : R2 := fun x y H Q => ∃ p xs i v, x = .ref p ∧ y = .int i ∧ SqT K H p xs ∧ atI xs i = some v ∧ Q v H
def rIxS : R2 := fun x y H Q => ∃ z i c, x = .str z ∧ y = .int i ∧ z.length ≤ sizeLine ∧ atI z.cps.toList i = some c ∧ Q (.str ⟨#[c]⟩) H
theorem ix_list : IxR X (rIxL X.K) := by
  intro value slice pins s σ H x y v u Q I rx ry h hs
  obtain ⟨p, xs, i, z, rfl, rfl, hq, he, q⟩ := h
  cases rx
  obtain ⟨t, rfl⟩ := ry
  obtain ⟨its, r, pl, hz⟩ := I.list hq
  obtain ⟨j, h1, h2, h3, h4, h5⟩ := atI_get he
  obtain ⟨w, ew, rw'⟩ := r.get h2
  have hl := r.length
  have hn := line63
  have fin : EP X pins σ Q w s := ⟨z, H, I, rw', q⟩
  by_cases h0 : 0 ≤ i
  · have hj : i.toNat = j := by
      rw [seqIndex_of h0 h5] at h1
      exact Option.some.inj h1
    exact item_listR pl.isList h0 (by omega) (by rw [hj]; simpa using ew) fin hs
  · have hj : (i + (its.toArray.size : Int)).toNat = j := by
      rw [seqIndex_neg (by omega) h4] at h1
      rw [List.size_toArray, ← hl]
      exact Option.some.inj h1
    exact subscriptTail_builtinR (x := w) pl.isList.typeIs slot_list_getitem.lookup
      (wpAny_getItem_list_neg (Q := fun r s' => r = w ∧ EP X pins σ Q r s') pl.isList (by omega) (by rw [List.size_toArray] <;> omega) (by omega) (by rw [hj]; simpa using ew) ⟨rfl, fin⟩) hs
theorem ix_tup : IxR X (rIxT X.K) := by
  intro value slice pins s σ H x y v u Q I rx ry h hs
  obtain ⟨p, xs, i, z, rfl, rfl, hq, he, q⟩ := h
  cases rx
  obtain ⟨t, rfl⟩ := ry
  obtain ⟨its, r, pl, hz⟩ := I.tuple hq
  obtain ⟨j, h1, h2, h3, h4, h5⟩ := atI_get he
  obtain ⟨w, ew, rw'⟩ := r.get h2
  have hl := r.length
  have hn := line63
  have fin : EP X pins σ Q w s := ⟨z, H, I, rw', q⟩
  exact subscriptTail_builtinR (x := w) pl.typeIs slot_tuple_getitem.lookup
    (getItem_tuple (j := j) (Q := fun r s' => r = w ∧ EP X pins σ Q r s') pl (by omega) (by omega) (by rw [List.size_toArray, ← hl]; exact h1) (by simpa using ew) ⟨rfl, fin⟩) hs
theorem ix_str : IxR X rIxS := by
  intro value slice pins s σ H x y v u Q I rx ry h hs
  obtain ⟨z, i, c, rfl, rfl, hz, he, q⟩ := h
  obtain ⟨t, rfl⟩ := rx
  obtain ⟨t', rfl⟩ := ry
  obtain ⟨j, h1, h2, h3, h4, h5⟩ := atI_get he
  have hl : z.cps.toList.length = z.length := by simp [Str.length]
  rw [hl] at h1 h4 h5
  have hn := line63
  exact tail_any (typeIs_str s z t) slot_str_getitem.lookup (getItem_str (c := c) (by
    have e1 : decide (i < -(2 ^ 63 : Int)) = false := decide_eq_false (by omega)
    have e2 : decide (i ≥ 2 ^ 63) = false := decide_eq_false (by omega)
    rw [e1, e2, Bool.or_false]) (by rw [h1]; simpa using h2) ⟨.str ⟨#[c]⟩, H, I.tok _, ⟨_, rfl⟩, q⟩) hs
/-! ### xs[i] = v, any sign -/
/-! ### slices -/
theorem slice_bounds (lo hi : Option Int) (n : Nat) : (sliceBounds lo hi none n).1 = ((HT.sIx n 0 lo : Nat) : Int) ∧ (sliceBounds lo hi none n).2.1 = ((HT.sIx n n hi : Nat) : Int) ∧ (sliceBounds lo hi none n).2.2 = 1 := by
  refine ⟨?_, ?_, rfl⟩
  · cases lo with
    | none => simp [sliceBounds, HT.sIx]
    | some i =>
      simp only [sliceBounds, HT.sIx, Option.getD_none, show (1 : Int) > 0 by decide, if_true]
      by_cases h : i < 0
      · simp only [h, if_true] <;> omega
      · simp only [h, if_false] <;> omega
  · cases hi with
    | none => simp [sliceBounds, HT.sIx]
    | some i =>
      simp only [sliceBounds, HT.sIx, Option.getD_none, show (1 : Int) > 0 by decide, if_true]
      by_cases h : i < 0
      · simp only [h, if_true] <;> omega
      · simp only [h, if_false] <;> omega
/-! ### in, not in: flat items -/
/-! ### len, list(x), tuple(x) of any list or tuple that is read -/
theorem call_len_seq : CallR X (.builtin "len") (fun xs H Q => ∃ p ys, xs = [.ref p] ∧ (SqL X.K H p ys ∨ SqT X.K H p ys) ∧ Q (.int ys.length) H) := by
  intro pins s σ H xs us Q I r h
  obtain ⟨p, ys, rfl, hq, q⟩ := h
  obtain ⟨u, rfl, rx⟩ := vals1 r
  cases rx
  have hn := line63
  rcases hq with hq | hq
  · obtain ⟨its, r', pl, hz⟩ := I.list hq
    have hlen := r'.length
    exact Calls.call_len_list pl.isList (by simp only [List.size_toArray] <;> omega) ⟨.int ys.length, H, I.tok _, ⟨s.toks + 1, by rw [List.size_toArray, hlen]⟩, q⟩
  · obtain ⟨its, r', pl, hz⟩ := I.tuple hq
    have hlen := r'.length
    exact len_tuple pl (by simp only [List.size_toArray] <;> omega) ⟨.int ys.length, H, I.tok _, ⟨s.toks + 1, by rw [List.size_toArray, hlen]⟩, q⟩
theorem call_list_of : CallR X (.type "list") (fun xs H Q => ∃ p ys, xs = [.ref p] ∧ (SqL X.K H p ys ∨ SqT X.K H p ys) ∧ ∀ l, H l = none → Q (.ref l) (upd H l (.lst ys))) := by
  intro pins s σ H xs us Q I r h
  obtain ⟨p, ys, rfl, hq, q⟩ := h
  obtain ⟨u, rfl, rx⟩ := vals1 r
  cases rx
  have fin : ∀ (its : List Value), Vals ys its → ys.length ≤ sizeLine → ∀ (h' : Heap) (c' : Nat), (∀ b o', s.heap.get? b = some o' → h'.get? b = some o') →
      h'.get? s.heap.objs.size = some { cls := .type "list", dict := none, data := .seq its.toArray c', slots := #[] } → EP X pins σ Q (.ref s.heap.objs.size) { s with heap := h' } := fun its r' hz h' c' kp e =>
    ⟨.ref s.heap.objs.size, _, I.laid (t' := s.toks) kp (Nat.le_refl _) (show ObjOk X.prog X.w _ h' _ (.lst ys) from ⟨hz, its, c', r', e⟩), rfl, q _ (I.hok.fresh (Nat.le_refl _))⟩
  rcases hq with hq | hq
  · obtain ⟨its, r', pl, hz⟩ := I.list hq
    have hlen := r'.length
    obtain ⟨o, ho, hc, n, hd⟩ := pl.isList
    exact call_list_seq p (.inl rfl) ho hc hd (fun h' c' kp e => fin its r' hz h' c' kp e) (by simp only [List.size_toArray] <;> omega)
  · obtain ⟨its, r', pl, hz⟩ := I.tuple hq
    have hlen := r'.length
    obtain ⟨o, ho, hc, n, hd⟩ := pl
    exact call_list_seq p (.inr rfl) ho hc hd (fun h' c' kp e => fin its r' hz h' c' kp e) (by simp only [List.size_toArray] <;> omega)
/-! ### the call of a builtin's method: o.m(..) -/
def tyV (K : PySem.W.Frag) (T : String) (x : V) (H : Hp) : Prop := match x with
  | .str _ => T = "str"
  | .int _ => T = "int"
  | .ref p => (T = "list" ∧ ∃ xs, SqL K H p xs) ∨ (T = "tuple" ∧ ∃ o, K.lookup p = some o ∧ o.cls = .type "tuple" ∧ o.dict = none) ∨
      (T = "dict" ∧ ((∃ kvs, H p = some (.dK kvs)) ∨ ∃ kvs, H p = some (.dT kvs))) ∨ (T = "set" ∧ ∃ S n, H p = some (.set S n))
  | _ => False
theorem tyV_is {pins : List (Addr × Obj)} {σ : St} {H : Hp} {s : Shared} {T : String} {x : V} {v : Value} (I : Inv X pins σ H s) (r : RelV x v) (ty : tyV X.K T x H) :
    s.TypeIs v T ∧ ∀ a, v = .ref a → ∃ ob, s.heap.get? a = some ob ∧ ob.dict = none := by
  cases x with
  | str z =>
    obtain ⟨t, rfl⟩ := r
    cases (show T = "str" from ty)
    exact ⟨typeIs_str s z t, fun _ e => nomatch e⟩
  | int i =>
    obtain ⟨t, rfl⟩ := r
    cases (show T = "int" from ty)
    exact ⟨typeIs_int s i t, fun _ e => nomatch e⟩
  | ref p =>
    cases r
    rcases ty with ⟨rfl, xs, hq⟩ | ⟨rfl, o, hk, hc, hd⟩ | ⟨rfl, hk⟩ | ⟨rfl, S, n, hk⟩
    · obtain ⟨its, _, pl, _⟩ := I.list hq
      refine ⟨pl.isList.typeIs, fun a e => ?_⟩
      cases e
      obtain ⟨o, n, e, c, hd, _⟩ := pl
      exact ⟨o, e, hd⟩
    · refine ⟨⟨o, I.kIn p o hk, hc⟩, fun a e => ?_⟩
      cases e
      exact ⟨o, I.kIn _ o hk, hd⟩
    · have z : ∃ o, s.heap.get? p = some o ∧ o.ExactDict := by
        rcases hk with ⟨kvs, hk⟩ | ⟨kvs, hk⟩
        · obtain ⟨_, _, _, _, o, _, _, e, ex, _⟩ := I.hok p _ hk
          exact ⟨o, e, ex⟩
        · obtain ⟨_, _, _, _, o, _, _, e, ex, _⟩ := I.hok p _ hk
          exact ⟨o, e, ex⟩
      obtain ⟨o, e, ex⟩ := z
      refine ⟨⟨o, e, ex.1⟩, fun a e2 => ?_⟩
      cases e2
      exact ⟨o, e, ex.2.1⟩
    · obtain ⟨o, _, _, _, e, ex, _⟩ := I.hok p _ hk
      refine ⟨⟨o, e, ex.1⟩, fun a e2 => ?_⟩
      cases e2
      exact ⟨o, e, ex.2.1⟩
  | _ => exact False.elim ty
def tBM (K : PySem.W.Frag) (T : String) (r : V → List V → Hp → VK → Prop) (to : TE) (t : TA) : TE := fun σ H Q => to σ H fun x H1 => tyV K T x H1 ∧ t σ H1 fun xs H2 => r x xs H2 Q
variable {o e : Expr} {es : List Expr} {to : TE} {t : TA} {name : Str} {apos cpos : Pos} {T id : String} {r : V → List V → Hp → VK → Prop}
theorem pe_bm (pa : PlainAttrs T) (slot : Slot T name id) (hty : typeOf (.builtin id) = pure (.type "method_descriptor")) (hm : MtR X id r) (ho : PE X o to) (ha : PA X (e :: es) t)
    (hbase : attributeBase o name X.env (eval o X.env) = eval o X.env := by rfl)
    (hfew : ((backTo cpos (starEach (e :: es) X.env)).all (fun x => !x.1) && (backToKw cpos (keywordEach [] X.env)).all (fun x => x.1.isSome)
      && decide ((e :: es).length + ([] : List Keyword).length + (if ([] : List Keyword).isEmpty then 0 else 1) < 30)) = true := by rfl)
    (hline : (apos.endLine == cpos.line) = true := by rfl) (hs : starEach (e :: es) X.env = (false, eval e X.env) :: starEach es X.env := by rfl) (hplain : (backTo cpos (starEach es X.env)).any (·.1) = false := by rfl) :
    PE X (.Call (.Attribute o name apos) (e :: es) [] cpos) (tBM X.K T r to t) := by
  intro pins s σ H Q I h
  refine wpAny_Call_method_late hbase hfew hline rfl (thn (ho pins s σ H _ I h) fun v s1 ⟨x, H1, I1, r1, ty, q1⟩ => ?_)
  obtain ⟨h1, h2⟩ := tyV_is I1 r1 ty
  refine ⟨T, id, pa, slot, hty, h1, h2, ?_⟩
  have hA := ha cpos pins s1 σ H1 _ I1 q1
  rw [hs] at hA ⊢
  refine Calls.callWith_builtin (by show (false || (backTo cpos (starEach es X.env)).any (·.1)) = false; rw [hplain] <;> rfl) (Calls.evalArgs_plain ?_)
  exact thn hA fun us s2 ⟨vs, H2, I2, r2, q2⟩ => hm pins s2 σ H2 x vs v us Q I2 r1 r2 q2
/- xs.append(e), list.index on a module's tuple .. are MtR facts of 06m -/
end
end L2

namespace L2
open PySem PySem.Spec PyProof.Rows

def MtM (X : Cx) (id : String) (r : V → List V → Hp → VK → Prop) : Prop :=
  ∀ (pins : List (Addr × Obj)) (s : Shared) (σ : St) (H : Hp) (x : V) (xs : List V) (v : Value) (us : List Value) (Q : VK), Inv X pins σ H s → RelV x v → Vals xs us → r x xs H Q →
    wpAny (model X.prog X.w) X.A (call (.builtin id) (v :: us)) (EP X pins σ Q) X.xe s

/-! ### lists of values -/
theorem Vals.one : ∀ {x : V} {us : List Value}, Vals [x] us → ∃ u, us = [u] ∧ RelV x u
  | _, _, .cons r .nil => ⟨_, rfl, r⟩
section
variable {X : Cx} {pins : List (Addr × Obj)} {σ : St} {H : Hp} {s : Shared} {l b : Addr} {xs ys zs : List V}

/-! ### the two steps: a tracked list is rewritten, a new list is laid -/
theorem Inv.lset {its its' : List Value} {n : Nat} {f : Array Value → Array Value} {t' : Nat} (I : Inv X pins σ H s) (hH : H l = some (.lst xs))
    (e : s.heap.get? l = some { cls := .type "list", data := .seq its.toArray n }) (hf : f its.toArray = its'.toArray) (hv : Vals ys its') (hz : ys.length ≤ sizeLine) :
    Inv X pins σ (upd H l (.lst ys)) { s with heap := s.heap.update l (Obj.mapSeq f), toks := t' } := by
  have q := PySem.IsL.update e f
  rw [hf] at q
  refine I.write (x := l) (e := l) (by rw [hH]; exact trivial) (.inl rfl) (fun b' u hb hu => (Heap.get?_update_other s.heap (Obj.mapSeq f) (Ne.symm hb)).trans hu) ⟨_, q⟩ ?_
  exact ⟨hz, its', _, hv, q⟩
theorem Inv.lnew {its : List Value} {t' : Nat} (I : Inv X pins σ H s) (hv : Vals ys its) (hz : ys.length ≤ sizeLine) :
    Inv X pins σ (upd H s.heap.objs.size (.lst ys)) { s with heap := s.heap.push { cls := .type "list", data := .seq its.toArray }, toks := t' } :=
  I.laid (fun _ _ q => Heap.get?_push_of_some _ q) (Nat.le_refl _) ⟨hz, its, 0, hv, Heap.get?_push_size _ rfl⟩
theorem Inv.fresh (I : Inv X pins σ H s) : H s.heap.objs.size = none := I.hok.fresh (Nat.le_refl _)
theorem Inv.lstM (I : Inv X pins σ H s) (hH : H l = some (.lst xs)) : xs.length ≤ sizeLine ∧ ∃ (its : List Value) (n : Nat), Vals xs its ∧ xs.length = its.length ∧ s.heap.get? l = some { cls := .type "list", data := .seq its.toArray n } := by
  obtain ⟨z, its, n, r, e⟩ := I.hok l _ hH
  exact ⟨z, its, n, r, r.length, e⟩

end

section
variable {X : Cx}

/-! ### methods -/
def rAppend : V → List V → Hp → VK → Prop := fun x vs H Q => ∃ l xs y, x = .ref l ∧ vs = [y] ∧ H l = some (.lst xs) ∧ xs.length < sizeLine ∧ Q .non (upd H l (.lst (xs ++ [y])))
theorem mt_append : MtM X "list.append" rAppend := by
  intro pins s σ H x vs v us Q I rx rv h
  obtain ⟨l, xs, y, rfl, rfl, hH, hz, q⟩ := h
  cases rx
  obtain ⟨u, rfl, ru⟩ := rv.one
  obtain ⟨z, its, n, r, hl, e⟩ := I.lstM hH
  refine call_meets F.slot_list_append ⟨_, e, rfl⟩ F.entry_list_append (F.args_list_append_2 _ _) (PySem.list_append l its.toArray n u (by rw [List.size_toArray]; omega)) ⟨e, ?_⟩
  refine ⟨.non, _, I.lset (its' := its ++ [u]) hH e (by simp) (r.append (.cons ru .nil)) ?_, rfl, q⟩
  rw [List.length_append, List.length_singleton]
  omega

/-! ### list + list, list += list, list * int -/
def rCat : R2 := fun x y H Q => ∃ l b xs zs, x = .ref l ∧ y = .ref b ∧ H l = some (.lst xs) ∧ H b = some (.lst zs) ∧ xs.length + zs.length ≤ sizeLine ∧ ∀ p, H p = none → Q (.ref p) (upd H p (.lst (xs ++ zs)))
theorem op_cat : OpR X (binaryOp .Add) rCat := by
  intro pins s σ H x y v u Q I rx ry h
  obtain ⟨l, b, xs, zs, rfl, rfl, hH, hB, hz, q⟩ := h
  cases rx
  cases ry
  obtain ⟨z, its, n, r, hl, e⟩ := I.lstM hH
  obtain ⟨z2, its2, n2, r2, hl2, e2⟩ := I.lstM hB
  refine PySem.P.add_list e e2 ?_ (by rw [List.size_toArray, List.size_toArray]; omega)
  have ea : its.toArray ++ its2.toArray = (its ++ its2).toArray := by simp
  rw [ea]
  exact ⟨.ref _, _, I.lnew (t' := s.toks) (r.append r2) (by rw [List.length_append]; omega), rfl, q _ I.fresh⟩
/-! ### del xs[i] -/
end

/-! ### xs[a:b] = ys -/
section
variable {prog : Program} {w : World} {A : Around} {E : Value → Shared → Prop} {s : Shared}
end

section
variable {X : Cx}
end
end L2

namespace Att
open PySem PySem.W PySem.Calls PyProof.Rows

/-! ### the script -/
theorem ints_of_wellAll {P : Params} {h : Heap} : ∀ (ns : List Int) (vs : List Value), WellAll P h vs (ns.map WData.int) → IntsAre vs ns := by
  intro ns
  induction ns with
  | nil =>
    intro vs w
    rw [List.map_nil] at w
    cases w
    exact .nil
  | cons n ns ih =>
    intro vs w
    rw [List.map_cons] at w
    cases w with
    | cons a b =>
      cases a
      exact .cons _ _ (ih _ b)

theorem script_of {l : OpenLaw} {n : Nat} (hn : l.most = some n) {P : Params} {h : Heap} {args : List WData} {vals : List Value}
    (hpre : l.row.toRowW.claim.pre args = true) (hwl : WellAll P h vals args) :
    ∃ a vs ns, vals = [Value.ref a] ∧ args = [WData.list (ns.map WData.int)] ∧ h.get? a = some { cls := .type "list", data := .seq vs.toArray } ∧ IntsAre vs ns ∧ ns.length ≤ n := by
  have hsh : WShape.hasAll [] args [.list .int] = true := (pre_splitW hpre).1
  have hc : l.pre.holds [] { args := args } = true := (pre_splitW hpre).2
  obtain ⟨d, r, rfl, h1, h2⟩ := hasAllW_cons hsh
  obtain rfl := hasAllW_nil h2
  obtain ⟨xs, rfl, h3⟩ := hasW_list h1
  obtain ⟨ns, rfl⟩ := items_int h3
  have hlen : ns.length ≤ n := by
    unfold OpenLaw.pre at hc
    have h4 : (WTm.not (.lt (.lit (.int (n : Int))) (.len (.arg 0)))).holds [] { args := [.list (ns.map .int)] } = true := by
      have h4 := (holds_andW hc).1
      rw [hn] at h4
      exact h4
    have h5 := condW_of h4 (w_not (w_lt w_lit (w_len_list (w_arg rfl))))
    rw [List.length_map] at h5
    refine Nat.le_of_not_lt fun q => ?_
    have q' : (n : Int) < ((ns.length : Nat) : Int) := by omega
    first
      | (rw [decide_eq_true q'] at h5; exact absurd h5 (by decide))
      | (simp at h5; omega)
  cases hwl with
  | cons w1 w2 =>
    cases w2
    cases w1 with
    | list ho hall => exact ⟨_, _, ns, rfl, rfl, ho, ints_of_wellAll ns _ hall, hlen⟩

theorem post_true (l : OpenLaw) (args : List WData) : l.row.toRowW.claim.post args (.bool true) args = true :=
  postW_of (r := l.row.toRowW) (X := (true == true))
    (show WShape.has [] (.bool true) .bool = true by first | rfl | decide | simp [WShape.has, WShape.arms, WShape.armsAll])
    (show (WTm.eq .res (.lit (.bool true))).value [] { args := args, res := some (.bool true), after := args } = some (.bool (true == true)) from w_eq_bool (w_res rfl) w_lit) rfl

/-! ### the attachment: holds_open's last premise (the goal 'hc' behind k_head) from a wpAny of the law's body -/
theorem attach_call {l : OpenLaw} {n : Nat} {q : Program} {loose : List Str} {XP : (Str → Option Value) → Heap → Prop} {YP : World → Heap → Prop} {d : DefRec}
    (hn : l.most = some n) (hdf : d.params.defaults = [])
    (call : ∀ (w : World) (s₀ s₁ : Shared) (mg mb : Str → Option Value) (fa : Addr) (o : Obj) (pm cd doc : Value) (a : Addr) (vs : List Value) (ns : List Int),
      Ground q loose [] XP w s₀ mg mb s₁.heap → YP w s₁.heap →
      s₁.heap.get? fa = some o → o.data = .func (docDef d.name d.params d.body d.scope pm cd doc) → s₁.heap.CodeRec cd d.name → mg d.name = some (.ref fa) →
      s₁.heap.get? a = some { cls := .type "list", data := .seq vs.toArray } → IntsAre vs ns → ns.length ≤ n → s₁.gens = #[] →
      codeAny (model l.prog w) callerA (.call (.ref fa) ⟨[.ref a], []⟩) (fun r s' => r = .ok (.ret (.bool true)) ∧ OldK s₁.heap s'.heap ∧ s'.os = s₁.os ∧ AllBare s'.gens) s₁) :
    WalkO q loose XP YP l.row.toRowW d [] (fun f vs => PySem.call f vs) := by
  intro w s₀ s₁ mg mb G Y fa o pm cd doc dV kV ho hd hcd hD hmg hg args vals as hpre hlay hrd hwl hlo
  obtain rfl : dV = .none := Dflts.none hD hdf
  obtain rfl : kV = .none := Dflts.noKw hD
  obtain ⟨a, vs, ns, rfl, rfl, hobj, hints, hlen⟩ := script_of hn hpre hwl
  refine enter_call (codeAny_mono (call w s₀ s₁ mg mb fa o pm cd doc a vs ns G Y ho (fd_plain hd) hcd hmg hobj hints hlen hg) fun r s' hq => ?_)
  obtain ⟨rfl, h2, h3, h4⟩ := hq
  exact ⟨.inl ⟨.bool true, .bool true, [], rfl, fun _ => rfl, .bool true, post_true l _, fun _ => ⟨List.Pairwise.nil, fun _ hm => (nomatch hm)⟩⟩, h2, h3, h4⟩

/-! ### rules over ANY heap (no ledger) from facts about the written part K: the library's own take a ledger (News) for what they write -/
section
variable {prog : Program} {w : World} {A : Around} {E : Value → Shared → Prop} {s : Shared} {K : Frag}

/-! the whole heap as the ledger: makes every rule that writes through a ledger a rule over any heap -/
def ledger (h : Heap) (L d : Addr) : List (Addr × Obj) := (List.range h.objs.size).filterMap fun a => if a = L ∨ a = d then none else (h.get? a).map fun o => (a, o)
end
end Att

namespace L2
open PySem PySem.Spec PyProof.Rows

theorem vals_ints : ∀ {vs : List Value} {ns : List Int}, IntsAre vs ns → Vals (ns.map V.int) vs
  | _, _, .nil => .nil
  | _, _, .cons n t h => .cons ⟨t, rfl⟩ (vals_ints h)

def Only (H : Hp) : Prop := ∀ b, H b = none ∨ ∃ o xs, H b = some (.frz o (.lst xs))

theorem law_call {P : Program} {w : World} {K : PySem.W.Frag} {mg mb : Str → Option Value} {CX : CXT} {k : Nat} {fa a : Addr} {fd : FuncData} {x : Str} {sp : Sp} {s₁ : Shared} {vs : List Value} {ns : List Int}
    (KX : K.In s₁.heap) (hns : s₁.heap.Ns mainGlobals mg) (hb : s₁.heap.Ns builtinsNs mb) (hbb : ∀ x : Str, x ≠ "__name__" → mb x = bootBuiltins x) (hlim : s₁.heap.NoLimit) (hg : s₁.gens = #[])
    (ha : s₁.heap.get? a = some { cls := .type "list", data := .seq vs.toArray }) (hi : IntsAre vs ns) (hl : ns.length ≤ sizeLine) (hr : Room k callerA)
    (F : ∀ base : Heap, K.In base → base.Ns mainGlobals mg → FnOk P w K mg base CX k fa fd [x] sp) (hbind : ∀ (s : Shared) (u : Value), BindsTo s fd ⟨[u], []⟩ [(x, u)])
    (hsp : ∀ H : Hp, Only H → SqL K H a (ns.map V.int) → sp [.ref a] H (fun v _ => v = .bl true) fun _ _ _ => False)
    (hCX : ∀ H e s', CX [] H s₁ (fun _ _ _ => False) e s' → False) :
    codeAny (model P w) callerA (.call (.ref fa) ⟨[.ref a], []⟩) (fun r s' => r = .ok (.ret (.bool true)) ∧ OldK s₁.heap s'.heap ∧ s'.os = s₁.os ∧ AllBare s'.gens) s₁ := by
  have rv := vals_ints hi
  have lenV := hi.length
  -- from an abstract heap in which nothing but the script may be tracked
  have core : ∀ H : Hp, Only H → SqL K H a (ns.map V.int) → HOk P w H s₁.heap → (∀ b, H b ≠ none → b = a) → (H a ≠ none → K.lookup a = none) →
      codeAny (model P w) callerA (.call (.ref fa) ⟨[.ref a], []⟩) (fun r s' => r = .ok (.ret (.bool true)) ∧ OldK s₁.heap s'.heap ∧ s'.os = s₁.os ∧ AllBare s'.gens) s₁ := by
    intro H hO hS hok hA hK
    have base_of : ∀ {b : Addr} {o : Obj}, s₁.heap.get? b = some o → H b = none → (hidT s₁.heap H).get? b = some o := fun e n => hidT_get e n
    have noA : ∀ {b : Addr} {o : Obj} {es : Array DictEntry} {ep : Nat}, s₁.heap.get? b = some o → o.data = .dict es ep → H b = none := fun {b o es ep} e d => by
      cases q : H b with
      | none => rfl
      | some u =>
        have e' : b = a := hA b (by rw [q]; simp)
        subst e'
        rw [ha] at e; cases e
        have d' : Data.seq vs.toArray _ = Data.dict es ep := d
        cases d'
    have nsK : ∀ {b : Addr} {m : Str → Option Value}, s₁.heap.Ns b m → (hidT s₁.heap H).Ns b m := fun {b m} ⟨o, es, ep, e, d, r⟩ => ⟨o, es, ep, base_of e (noA e d), d, r⟩
    have hKb : K.In (hidT s₁.heap H) := fun b o e => base_of (KX b o e) (by
      cases q : H b with
      | none => rfl
      | some u =>
        have e' : b = a := hA b (by rw [q]; simp)
        subst e'
        rw [hK (by rw [q]; simp)] at e; cases e)
    have hM : Mod K mg (hidT s₁.heap H) := ⟨hKb, nsK hns, ⟨mb, nsK hb, hbb⟩, let ⟨mc, h1, h2⟩ := hlim; ⟨mc, nsK h1, h2⟩⟩
    have e0 : Env0 P w K mg (hidT s₁.heap H) callerA [] s₁ H := ⟨rfl, hM, fun b o e => of_hidT e, Nat.le_of_eq (hidT_size _ _), trivial, fun b hb => absurd (show b ∈ ([] : List Addr) from hb) (by simp), hok, .of_eq hg⟩
    refine codeAny_mono ((F _ hKb (nsK hns)).run callerA [] s₁ H ⟨[.ref a], []⟩ [.ref a] [.ref a] _ _ hr e0 (hbind s₁ (.ref a)) (.cons rfl .nil) (hsp H hO hS)) fun r s' h => ?_
    cases r with
    | error e => exact (hCX H e s' h).elim
    | ok fl =>
      cases fl with
      | next => exact False.elim h
      | brk => exact False.elim h
      | cont => exact False.elim h
      | ret u =>
        obtain ⟨v, H', os, bare, un, hok', r', q⟩ := h
        have q' : v = .bl true := q
        subst q'
        obtain rfl : u = Value.bool true := r'
        refine ⟨rfl, OldK.of_keep fun b o e => ?_, os, bare⟩
        cases q : H b with
        | none => exact un.keep b o e q (by intro z; exact absurd (show b ∈ ([] : List Addr) from z) (by simp)) (by simp)
        | some u =>
          rcases hO b with z | ⟨ob, xs, z⟩
          · rw [q] at z; cases z
          · have z2 := un.frzs b ob _ z
            obtain ⟨e1, _⟩ := hok b _ z
            obtain ⟨e2, _⟩ := hok' b _ z2
            rw [e] at e1; cases e1
            exact e2
  cases hk : K.lookup a with
  | some o =>
    -- the script is one of the module's own objects
    have e := KX a o hk
    rw [ha] at e
    cases e
    refine core (fun _ => none) (fun _ => .inl rfl) (.inr ⟨_, vs.toArray, _, hk, rfl, rfl, rfl, by rw [List.size_toArray, lenV]; exact hl, by simpa using rv⟩) (fun b u z => by have z' : (none : Option HO) = some u := z; cases z') (fun b z => absurd rfl z) fun z => absurd rfl z
  | none =>
    refine core (fun b => if b = a then some (.frz { cls := .type "list", data := .seq vs.toArray } (.lst (ns.map V.int))) else none) (fun b => ?_) (.inl (.inr ⟨{ cls := .type "list", data := .seq vs.toArray }, if_pos rfl⟩)) (fun b u z => ?_) (fun b z => ?_) fun _ => hk
    · by_cases hb : b = a
      · exact .inr ⟨_, _, if_pos hb⟩
      · exact .inl (if_neg hb)
    · by_cases hb : b = a
      · have z' := (if_pos hb).symm.trans z
        cases z'
        subst hb
        exact ⟨ha, by rw [List.length_map]; exact hl, vs, _, rv, ha⟩
      · have z' := (if_neg hb).symm.trans z
        cases z'
    · by_cases hb : b = a
      · exact hb
      · exact absurd (if_neg hb) z
end L2

namespace L2
open PySem PySem.Spec PyProof.Rows

abbrev KOf {K : PySem.W.Frag} {h : Heap} (_ : K.In h) : PySem.W.Frag := K

theorem walk_of {l : PySem.W.OpenLaw} {n k : Nat} {q : Program} {loose : List Str} {XP : (Str → Option Value) → Heap → Prop} {YP : World → Heap → Prop} {d : DefRec} {K : Params → PySem.W.Frag} {CX : World → CXT} {sp : World → Sp} {x : Str}
    (hn : l.most = some n) (hn2 : n ≤ sizeLine) (hdf : d.params.defaults = []) (hr : Room k callerA)
    (hY : ∀ (w : World) (h : Heap), YP w h → (K w.params).In h)
    (F : ∀ (w : World) (mg : Str → Option Value) (fa : Addr) (h : Heap), (K w.params).In h → h.Ns mainGlobals mg → mg d.name = some (.ref fa) →
      ∃ fd : FuncData, (∀ (s : Shared) (u : Value), BindsTo s fd ⟨[u], []⟩ [(x, u)]) ∧
        ∀ base : Heap, (K w.params).In base → base.Ns mainGlobals mg → FnOk l.prog w (K w.params) mg base (CX w) k fa fd [x] (sp w))
    (hsp : ∀ (w : World) (H : Hp) (a : Addr) (ns : List Int), ns.length ≤ n → Only H → SqL (K w.params) H a (ns.map V.int) → sp w [.ref a] H (fun v _ => v = .bl true) fun _ _ _ => False)
    (hCX : ∀ (w : World) (H : Hp) (s : Shared) (e : Value) (s' : Shared), CX w [] H s (fun _ _ _ => False) e s' → False) :
    PySem.W.WalkO q loose XP YP l.row.toRowW d [] (fun f vs => PySem.call f vs) := by
  refine Att.attach_call hn hdf fun w s₀ s₁ mg mb fa o pm cd doc a vs ns G Y ho hd hcd hmg hobj hints hlen hg => ?_
  have KX := hY w _ Y
  obtain ⟨fd, hb, hF⟩ := F w mg fa _ KX G.T.g hmg
  exact law_call KX G.T.g G.T.b G.T.builtins G.T.nolimit hg hobj hints (Nat.le_trans hlen hn2) hr hF hb (fun H hO hS => hsp w H a ns hlen hO hS) fun H e s' => hCX w H s₁ e s'
end L2

/- THE LAST THEOREM (shape; LID, My.* are yours):
   My.Adr: a structure of the addresses that your layer names (classes, functions); My.Txt K t: a structure (Prop) of the equations over K;
   My.txt_mk : {K} {implicit addresses ..} (e1 : nsIn K mainGlobals "law" = some (some (.ref f))) (e2 : K.lookup f = some ⟨oc, od, .func (fnOf "law" "law" params body scope dV kV doc pm an cdv ct), sl⟩) (e3 : codeIn K cdv "law" = true) .. : ∃ t, My.Txt K t

set_option maxRecDepth 100000 in
set_option maxHeartbeats 0 in
theorem PySem.Challenge.cw_LID_holds : PySem.Challenge.rw_LID.Holds := by
  w_on; o_law; k_head; (case hw => w_witness2)
  k_fill
  refine L2.walk_of (l := PySem.Challenge.rw_LID) (n := 63) (k := 40) (x := "script") (CX := fun w => ..) (sp := fun _ => My.sp_law) rfl (by decide) rfl ⟨rfl, by decide, by decide⟩ (fun w h Y => PySem.W.kIn_of Y) ?F ?S ?C
  case F =>
    intro w mg fa h KX G hmg
    have T : ∃ t, My.Txt (L2.KOf KX) t := by
      dsimp only [L2.KOf]                          -- K must stand as «<heap const> w.params» for k_is
      refine' My.txt_mk ?e1 ?e2 ?e3 ..
      (case e1 => PySem.W.k_is)                    -- in the order: a name -> its address -> its object -> its parts
      (case e2 => PySem.W.k_is)
      ..
    obtain ⟨t, T⟩ := T
    have e0 := hmg.symm.trans (PySem.W.mg_of KX G T.law)
    cases e0                                       -- fa is the law's own address
    exact ⟨_, fun s u => .of_eq rfl, fun base kb nb => My.law_fn T kb nb⟩     -- if «.of_eq rfl» comes too early: refine' ⟨_, ?b, fun base kb nb => My.law_fn T kb nb⟩; exact fun s u => .of_eq rfl
  case S => exact fun w H a ns hl hO hS => ..
  case C => exact ..
(the tactic k_is has no namespace: write k_is) -/

/-! SHORT WORDS over the layer: a def of the text, its body, what a loop and a test want. -/
namespace L2
open PySem PySem.Spec PyProof.Rows

/-! ### the text by places -/
def defArgs (s : Stmt) : Arguments := match s with
  | .FunctionDef _ a _ _ _ _ _ _ _ _ => a
  | _ => { posonlyargs := [], args := [], vararg := none, kwonlyargs := [], kw_defaults := [], kwarg := none, defaults := [] }
def defBody (s : Stmt) : List Stmt := match s with
  | .FunctionDef _ _ b _ _ _ _ _ _ _ => b
  | _ => []
def defScope (s : Stmt) : Scope := match s with
  | .FunctionDef _ _ _ _ _ _ sc _ _ _ => sc
  | _ => { kind := .function, names := [], isGenerator := false, isCoroutine := false }

/-! ### no exception leaves a def -/
abbrev CX0 : CXT := fun _ _ _ _ _ _ => False
abbrev E0 : XK := fun _ _ _ => False
theorem pass0 {X : Cx} : Passes CX0 X E0 := fun _ _ _ _ _ _ _ h => h.elim

/-! ### a def (or method) of the text as it stands behind the top -/
structure Fun (K : PySem.W.Frag) (x qual : Str) (st : Stmt) (f : Addr) (fd : FuncData) : Prop where
  ex : ∃ (oc : Value) (od : Option Addr) (kV doc pm : Value) (an : Option Addr) (cdv ct : Value) (osl : Array (Option Value)),
    fd = PySem.W.fnOf x qual (defArgs st) (defBody st) (defScope st) .none kV doc pm an cdv ct ∧ K.lookup f = some ⟨oc, od, .func fd, osl⟩ ∧ PySem.W.codeIn K cdv qual = true
  kp : PySem.W.keepIn K (.ref f) = true
section
variable {P : Program} {w : World} {K : PySem.W.Frag} {mg : Str → Option Value} {base : Heap}
theorem Fun.ok {x qual : Str} {st : Stmt} {f : Addr} {fd : FuncData} {N ps : List Str} {k : Nat} {sp : Sp} (F : Fun K x qual st f fd) (S : FnScope N ps (defScope st)) (len : ∀ vs H Q E, sp vs H Q E → vs.length = ps.length)
    (hbody : ∀ (cdv : Value) (A : Around) (outer : List Env) (s : Shared) (H : Hp) (vs : List V) (Q : VK) (E : XK), Room k (A.deeper (envOfC qual (defScope st) s.heap.objs.size f cdv)) → sp vs H Q E →
      ∃ t, PSs (cxOf CX0 P w K mg base N qual (defScope st) f cdv A outer s H E).nox (defBody st) t ∧ t { nx := fun _ H' => Q .non H', rt := Q } (start N vs) H) : FnOk P w K mg base CX0 (k + 1) f fd ps sp := by
  obtain ⟨oc, od, kV, doc, pm, an, cdv, ct, osl, rfl, lk, hcd⟩ := F.ex
  refine fn_of lk hcd S len fun A outer s H vs Q E hr hsp => ?_
  obtain ⟨t, h, q⟩ := hbody cdv A outer s H vs Q E hr hsp
  exact ⟨t, h.nox, q⟩
theorem Fun.binds {x qual : Str} {st : Stmt} {f : Addr} {fd : FuncData} {ps : List Str} (F : Fun K x qual st f fd)
    (h : ∀ (kV doc pm : Value) (an : Option Addr) (cdv ct : Value) (us : List Value), us.length = ps.length → bindArgs (PySem.W.fnOf x qual (defArgs st) (defBody st) (defScope st) .none kV doc pm an cdv ct) ⟨us, []⟩ = pure (ps.zip us)) : Binds K fd ps [] := by
  obtain ⟨oc, od, kV, doc, pm, an, cdv, ct, osl, rfl, lk, hcd⟩ := F.ex
  exact .all (h kV doc pm an cdv ct)
theorem fun_mk {x qual : Str} {st : Stmt} {f : Addr} {oc : Value} {od an : Option Addr} {osl : Array (Option Value)} {kV doc pm cdv ct : Value} (l : K.lookup f = some ⟨oc, od, .func (PySem.W.fnOf x qual (defArgs st) (defBody st) (defScope st) .none kV doc pm an cdv ct), osl⟩)
    (c : PySem.W.codeIn K cdv qual = true) (k : PySem.W.keepIn K (.ref f) = true) : Fun K x qual st f (PySem.W.fnOf x qual (defArgs st) (defBody st) (defScope st) .none kV doc pm an cdv ct) := ⟨⟨oc, od, kV, doc, pm, an, cdv, ct, osl, rfl, l, c⟩, k⟩
end
/-! ### expressions in short: the name that stands in the i-th slot -/
section
variable {X : Cx}
theorem pv (i : Nat) {x : Str} {pos : Pos} (hN : X.N[i]? = some x := by rfl) (hv : Vis X.env.scope x := by first | exact Or.inl rfl | exact Or.inr (Or.inl rfl) | exact Or.inr (Or.inr rfl)) (hd : (x == ("__debug__" : Str)) = false := by decide)
    (hcd : (x == ("__classdict__" : Str)) = false := by decide) : PE X (.Name x pos) (tVar i) := pe_var hN hv hd hcd
end

/-! ### tests -/
theorem iteF {A B : Prop} (h : B) : if false = true then A else B := by
  rw [if_neg Bool.false_ne_true]
  exact h
theorem iteT {A B : Prop} (h : A) : if true = true then A else B := by
  rw [if_pos rfl]
  exact h
/-! ### heaps -/
def Same (H H' : Hp) : Prop := ∀ b o, H b = some o → H' b = some o
theorem Same.refl (H : Hp) : Same H H := fun _ _ h => h
theorem Same.trans {H H1 H2 : Hp} (a : Same H H1) (b : Same H1 H2) : Same H H2 := fun c o h => b c o (a c o h)
theorem Same.free {H H' : Hp} (e : Same H H') {l : Addr} (h : H' l = Option.none) : H l = Option.none := by
  cases q : H l with
  | none => rfl
  | some o =>
    rw [e l o q] at h
    cases h
theorem Same.seq {K : PySem.W.Frag} {H H' : Hp} {a : Addr} {xs : List V} (e : Same H H') (h : SqL K H a xs) : SqL K H' a xs := by
  rcases h with (h | ⟨o, h⟩) | h
  · exact .inl (.inl (e _ _ h))
  · exact .inl (.inr ⟨o, e _ _ h⟩)
  · exact .inr h

end L2

/-! the head of a row in one go: the text's top is run by the kernel as one equation, with no state written out in between. -/
namespace Hd
open PySem PySem.W PySem.Calls PyProof.Rows

def bt : Nat → Nat → Nat → List Obj → BT
  | 0, _, _, _ => .nil
  | f + 1, a, b, l => match l[b]? with
    | none => .nil
    | some o => .node o (bt f (2 * a) (a + b) l) (bt f (2 * a) (2 * a + b) l)
theorem bt_get : ∀ (f a b : Nat) (l : List Obj) (i : Nat), 0 < a → i < f → (bt f a b l).get i = l[b + a * i]?
  | 0, _, _, _, _, _, h => absurd h (Nat.not_lt_zero _)
  | f + 1, a, b, l, i, ha, hi => by
    unfold bt
    cases e : l[b]? with
    | none =>
      have h1 : l.length ≤ b := List.getElem?_eq_none_iff.mp e
      have h2 : b ≤ b + a * i := Nat.le_add_right _ _
      rw [List.getElem?_eq_none (by omega)]
      rfl
    | some o =>
      show (BT.node o _ _).get i = _
      rw [BT.get_node]
      by_cases h0 : i = 0
      · subst h0; rw [if_pos rfl, Nat.mul_zero, Nat.add_zero, e]
      · rw [if_neg h0]
        by_cases h1 : i % 2 = 1
        · rw [if_pos h1, bt_get f (2 * a) (a + b) l (i / 2) (by omega) (by omega)]
          congr 1
          have e2 : i = 2 * (i / 2) + 1 := by omega
          calc a + b + 2 * a * (i / 2) = b + a * (2 * (i / 2) + 1) := by rw [Nat.mul_add, Nat.mul_one, ← Nat.mul_assoc, Nat.mul_comm a 2]; omega
            _ = b + a * i := by rw [← e2]
        · rw [if_neg h1, bt_get f (2 * a) (2 * a + b) l (i / 2 - 1) (by omega) (by omega)]
          congr 1
          have e2 : i = 2 * ((i / 2 - 1) + 1) := by omega
          calc 2 * a + b + 2 * a * (i / 2 - 1) = b + a * (2 * ((i / 2 - 1) + 1)) := by rw [← Nat.mul_assoc, Nat.mul_comm a 2, Nat.mul_add, Nat.mul_one]; omega
            _ = b + a * i := by rw [← e2]
def toT (n : Nat) (s : Shared) : SharedT := ⟨bt n 1 0 s.heap.objs.toList, n, s.heap.life, s.gens, s.drawn, s.toks, s.os⟩
theorem toT_abs {n : Nat} {s : Shared} (h : s.heap.objs.size = n) : (toT n s).abs = s := by
  obtain ⟨⟨objs, life⟩, g, d, k, os⟩ := s
  have e : absHeap (bt n 1 0 objs.toList) n life = ⟨objs, life⟩ := by
    have q : (absHeap (bt n 1 0 objs.toList) n life).objs = objs := by
      apply Array.ext_getElem?
      intro i
      rw [absHeap_at]
      by_cases hi : i < n
      · rw [if_pos hi, bt_get n 1 0 _ i (by decide) hi, Nat.zero_add, Nat.one_mul]
        have : i < objs.size := by rw [h]; exact hi
        simp [this]
      · rw [if_neg hi]
        exact (Array.getElem?_eq_none (by rw [h]; omega)).symm
    show Heap.mk (absHeap (bt n 1 0 objs.toList) n life).objs life = _
    rw [q]
  show Shared.mk (absHeap (bt n 1 0 objs.toList) n life) g d k os = _
  rw [e]

abbrev body (p : Program) (env : Env) : Code := .body (behindTheImports p) env
abbrev base (fp : Pos) : List Frame := [topFrame fp]

def look {α : Type} (p q : Program) (loose : List Str) (Xt : Shared → Bool) (Yf : Shared → α) (H₀ : Heap) (s : Shared) :=
  ((staticsOk (importedModules p.main.body) H₀ s.heap && namesBound p s.heap && gensDone s && laidKept H₀ s.heap), openSeen q loose (importedModules p.main.body) Xt true s, Yf s)

end Hd

/-! the head in several goes: for texts whose run is too long for one. -/
namespace Hd
open PySem PySem.W PySem.Calls PyProof.Rows

def Upto (p : Program) (env : Env) (fp : Pos) (m₀ : Nat) (ann : Option Value) (k j : Nat) (M : World → OsState → SharedT) (pos : Pos) : Prop :=
  ∀ (w : World) (os : OsState) (N : Nat) (r : Shared), topRun treeTable p w m₀ ann N (M w os).abs (restOf ((behindTheImports p).drop j) env (body p env) pos (base fp)) = some r →
    topRun treeTable p w m₀ ann (k + N) ⟨boot_heap w.params, Array.mk [], boot_drawn, boot_toks, os⟩ (topStub p) = some r

theorem upto_first {p : Program} {env : Env} {fp p1 p2 p3 : Pos} {m₀ k1 k2 k3 n₁ j : Nat} {ann : Option Value} {M : World → OsState → SharedT}
    (h : ∀ w : World, (fun os => (topGo treeTable p w m₀ ann k1 ⟨boot_heap w.params, Array.mk [], boot_drawn, boot_toks, os⟩ (topStub p)).map fun r => (r.2,
        (segRun treeTable p w m₀ ann 1 k2 r.1 (blockOf (behindTheImports p) env (body p env) p1 (base fp))).map fun b => ((b.1, b.2.2, b.2.1.heap.objs.size),
          segRunT treeTable p w m₀ ann 1 k3 (toT n₁ b.2.1) (piecesOf ((behindTheImports p).take j) env (body p env) p2 (base fp))))) =
      fun os => some (⟨denote treeTable (body p env), body p env, p1, base fp⟩, some ((.next, (body p env, p2), n₁), some (.next, M w os, body p env, p3)))) :
    Upto p env fp m₀ ann (k1 + (k2 + k3)) j M p3 := fun w os N r k => by
  obtain ⟨⟨s1, t1⟩, h1, e1⟩ := Option.map_eq_some_iff.mp (congrFun (h w) os)
  obtain ⟨rfl, e1⟩ := Prod.mk.inj e1
  obtain ⟨⟨f2, s2, c2, q2⟩, h2, e2⟩ := Option.map_eq_some_iff.mp e1
  obtain ⟨e2, h3⟩ := Prod.mk.inj e2
  obtain ⟨rfl, e2⟩ := Prod.mk.inj e2
  obtain ⟨e2, hz⟩ := Prod.mk.inj e2
  obtain ⟨rfl, rfl⟩ := Prod.mk.inj e2
  have h3' := segRun_of h3
  rw [toT_abs hz] at h3'
  have h4 := piece_app (rest := (behindTheImports p).drop j) h3' k
  rw [List.take_append_drop] at h4
  have h5 := go_top h1 (piece_block h2 h4)
  rw [show k1 + (k2 + k3) + N = k1 + (k2 + (k3 + N)) by omega]
  exact h5

theorem upto_next {p : Program} {env : Env} {fp p3 p4 : Pos} {m₀ k n j i : Nat} {ann : Option Value} {M M' : World → OsState → SharedT} (u : Upto p env fp m₀ ann k j M p3)
    (h : ∀ w : World, (fun os => segRunT treeTable p w m₀ ann 1 n (M w os) (piecesOf (((behindTheImports p).drop j).take i) env (body p env) p3 (base fp))) = fun os => some (.next, M' w os, body p env, p4)) :
    Upto p env fp m₀ ann (k + n) (j + i) M' p4 := fun w os N r z => by
  rw [← List.drop_drop] at z
  have h4 := piece_app (rest := ((behindTheImports p).drop j).drop i) (segRun_of (congrFun (h w) os)) z
  rw [List.take_append_drop] at h4
  have := u w os _ r h4
  rw [Nat.add_assoc]
  exact this

theorem left_last {p q : Program} {loose : List Str} {Xt : Shared → Bool} {α : Type} {Yf : Shared → α} {Ya : World → α} {N m₀ k j n k4 : Nat} {ann : Option Value} {env : Env} {fp p3 p4 : Pos} {M : World → OsState → SharedT}
    (e0 : opening p = plainProg p.main.scope.names) (hN : Nat.ble 600 N = true) (f0 : ∀ s, fenceModules? p s = some s)
    (size : ∀ w : World, ((boot_heap w.params).isNs mainGlobals && (Array.mk ([] : List GenState)).size == 0, (boot_heap w.params).objs.size, (boot_heap w.params).nsMap mainGlobals "__annotations__") = (true, m₀, ann))
    (le : Nat.ble (k + (n + k4)) N = true) (u : Upto p env fp m₀ ann k j M p3)
    (h : ∀ w : World, (fun os => (segRunT treeTable p w m₀ ann 1 n (M w os) (piecesOf ((behindTheImports p).drop j) env (body p env) p3 (base fp))).map fun c => ((c.1, c.2.2),
            (topRun treeTable p w m₀ ann k4 c.2.1.abs ⟨doneF .next, body p env, p4, base fp⟩).map (look p q loose Xt Yf (boot_heap w.params)))) =
      fun _ => some ((.next, body p env, p4), some (true, openGood q loose, Ya w))) :
    LeftO p q loose Xt Yf Ya N := fun w => by
  obtain ⟨s0, a0, b0⟩ := Option.map_eq_some_iff.mp (boot_open e0 hN f0 w)
  obtain ⟨hp, gs, d, kk, os⟩ := s0
  obtain ⟨rfl, rfl, rfl, rfl⟩ : hp = boot_heap w.params ∧ gs = Array.mk [] ∧ d = boot_drawn ∧ kk = boot_toks := by simpa using b0
  obtain ⟨z1, z2, z3⟩ := (by simpa only [Prod.mk.injEq] using size w : _ ∧ _ ∧ _)
  obtain ⟨⟨f3, s3, c3, q3⟩, h3, e3⟩ := Option.map_eq_some_iff.mp (congrFun (h w) os)
  obtain ⟨e3, e3'⟩ := Prod.mk.inj e3
  obtain ⟨rfl, e3⟩ := Prod.mk.inj e3
  obtain ⟨rfl, rfl⟩ := Prod.mk.inj e3
  obtain ⟨s4, h4, e4⟩ := Option.map_eq_some_iff.mp e3'
  have h4' : topRun treeTable p w m₀ ann (n + k4) (M w os).abs (restOf ((behindTheImports p).drop j ++ []) env (body p env) _ [topFrame fp]) = some s4 := piece_app (segRun_of h3) h4
  rw [List.append_nil] at h4'
  have r := topRun_mono (N - (k + (n + k4))) _ _ _ _ (u w os _ _ h4')
  rw [show k + (n + k4) + (N - (k + (n + k4))) = N by have := Nat.le_of_ble_eq_true le; omega] at r
  obtain ⟨l1, l2⟩ := Prod.mk.inj e4
  have t : topFrom treeTable p w N ⟨boot_heap w.params, Array.mk [], boot_drawn, boot_toks, os⟩ = some s4 := by
    unfold topFrom
    dsimp only
    rw [z1, z2, z3, r]
    dsimp only [Option.bind_some]
    rw [l1]
  unfold openEnds
  rw [a0]
  show (topFrom treeTable p w N _).map _ = _
  rw [t]
  exact congrArg some l2
end Hd
namespace Hd
open PySem PySem.W PySem.Calls PyProof.Rows
def Gp (p : Program) (env : Env) (fp : Pos) (m₀ : Nat) (ann : Option Value) (n k4 j : Nat) (p3 p4 : Pos) (M : World → OsState → SharedT) {α : Type} (f : World → Shared → α) (v : World → α) : Prop :=
  ∀ w : World, (fun os => (segRunT treeTable p w m₀ ann 1 n (M w os) (piecesOf ((behindTheImports p).drop j) env (body p env) p3 (base fp))).map fun c => ((c.1, c.2.2),
      (topRun treeTable p w m₀ ann k4 c.2.1.abs ⟨doneF .next, body p env, p4, base fp⟩).map (f w))) = fun _ => some ((.next, body p env, p4), some (v w))
theorem Gp.prod {p : Program} {env : Env} {fp : Pos} {m₀ : Nat} {ann : Option Value} {n k4 j : Nat} {p3 p4 : Pos} {M : World → OsState → SharedT} {α β : Type} {f : World → Shared → α × β} {v : World → α × β}
    (a : Gp p env fp m₀ ann n k4 j p3 p4 M (fun w s => (f w s).1) fun w => (v w).1) (b : Gp p env fp m₀ ann n k4 j p3 p4 M (fun w s => (f w s).2) fun w => (v w).2) : Gp p env fp m₀ ann n k4 j p3 p4 M f v := fun w => by
  funext os
  have a := congrFun (a w) os
  have b := congrFun (b w) os
  obtain ⟨c, hc, ec⟩ := Option.map_eq_some_iff.mp a
  rw [hc] at b ⊢
  obtain ⟨c1, c2⟩ := Prod.mk.inj ec
  obtain ⟨s, hs, es⟩ := Option.map_eq_some_iff.mp c2
  have b2 := (Prod.mk.inj (Option.some.inj b)).2
  rw [hs] at b2
  have b3 := Option.some.inj b2
  show some ((c.1, c.2.2), Option.map (f w) _) = _
  rw [hs, c1]
  exact congrArg (fun z => some (_, some z)) (Prod.ext es b3)
end Hd

namespace L2
open PySem PySem.Spec PyProof.Rows

/-! ### lists of pairs as tables -/
section
variable {κ : Type} [DecidableEq κ]
def valV (kvs : List (κ × V)) (k : κ) : Option V := (kvs.find? fun kv => decide (kv.1 = k)).map (·.2)
theorem valV_nil {k : κ} : valV ([] : List (κ × V)) k = none := rfl
end


/-! ### a tracked dict, its keys ints and texts or tuples of these -/
section
variable {P : Program} {w : World} {H : Hp} {h : Heap} {a : Addr}
end

section
variable {X : Cx} {pins : List (Addr × Obj)} {σ : St} {H : Hp} {s : Shared} {a : Addr} {y v : V} {u r : Value} {o : Option V} {A : Around} {E : Value → Shared → Prop}

end

section
variable {X : Cx} {pins : List (Addr × Obj)} {σ : St} {H : Hp} {s : Shared} {a : Addr} {kvs : List (Key × V)} {k : Key} {u : Value} {A : Around} {E : Value → Shared → Prop}
end


/-! ### readings and rules -/
section
variable {X : Cx} {o i e value : Expr} {pos pos' tpos : Pos} {td ty tv : TE}
end


/-! ### displays -/
section
variable {X : Cx} {pos : Pos}
end

def tPairs : List (TE × TE) → St → Hp → (List (V × V) → Hp → Prop) → Prop
  | [], _, H, Q => Q [] H
  | (tk, tv) :: r, σ, H, Q => tk σ H fun x H1 => tv σ H1 fun y H2 => tPairs r σ H2 fun ps H3 => Q ((x, y) :: ps) H3
/-! ### methods -/
section
variable {X : Cx} {pins : List (Addr × Obj)} {σ : St} {H : Hp} {s : Shared} {a : Addr} {y d : V} {u r : Value} {o : Option V} {A : Around} {E : Value → Shared → Prop}
end

section
variable {X : Cx} {o e f : Expr} {apos cpos : Pos} {td ty tx : TE}
end

/-! ### dict(d): a copy -/
section
variable {X : Cx} {pins : List (Addr × Obj)} {σ : St} {H : Hp} {s : Shared} {a : Addr} {kvs : List (Key × V)} {A : Around} {E : Value → Shared → Prop}
end


section
variable {X : Cx} {pins : List (Addr × Obj)} {σ : St} {H : Hp} {s : Shared} {a : Addr} {y : V} {u : Value} {A : Around} {E : Value → Shared → Prop}
end
section
variable {X : Cx}
end
/-! ### a dict's pairs: keys that differ -/
section
variable {κ : Type} [DecidableEq κ]
end
end L2


/-! Own additions to the hand layer: slices of texts, unpacking a list, isinstance, calls by a bundle. -/
namespace L3
open PySem PySem.Spec PyProof.Rows L2
theorem bt_len : bootBuiltins "len" = some (.builtin "len") := by decide +kernel
theorem bt_min : bootBuiltins "min" = some (.builtin "min") := by decide +kernel
theorem bt_max : bootBuiltins "max" = some (.builtin "max") := by decide +kernel
theorem bt_isinstance : bootBuiltins "isinstance" = some (.builtin "isinstance") := by decide +kernel
theorem bt_list : bootBuiltins "list" = some (.type "list") := by decide +kernel
/-! ### texts as lists of codes -/
abbrev cl (z : Str) : List Nat := z.cps.toList
theorem cl_length (a : Str) : (cl a).length = a.length := by
  show a.cps.toList.length = a.cps.size
  rw [Array.length_toList]
theorem cl_slice (z : Str) (lo hi : Option Int) : cl (Txt.slice z lo hi) = ((cl z).drop (HT.sIx z.length 0 lo)).take (HT.sIx z.length z.length hi - HT.sIx z.length 0 lo) := by
  have e : Builtin.Str.strSliceIndices lo hi 1 z.length = sliceRange (sliceBounds lo hi none z.length).1 (sliceBounds lo hi none z.length).2.1 1 := by
    cases lo <;> cases hi <;> rfl
  obtain ⟨h1, h2, _⟩ := slice_bounds lo hi z.length
  have p : (Builtin.Str.strSliceIndices lo hi 1 z.length).filterMap (z.cps[·]?) = ((cl z).drop (HT.sIx z.length 0 lo)).take (HT.sIx z.length z.length hi - HT.sIx z.length 0 lo) := by
    rw [e, h1, h2, sliceRange_one, pick_run]
  unfold Txt.slice
  split
  · rename_i hc
    have hl : (Builtin.Str.strSliceIndices lo hi 1 z.length).length = z.length := by
      simpa using hc
    rw [e, h1, h2, sliceRange_one, List.length_map, List.length_range] at hl
    have b1 := HT.sIx_le z.length 0 (Nat.zero_le _) lo
    have b2 := HT.sIx_le z.length z.length (Nat.le_refl _) hi
    by_cases h0 : z.length = 0
    · have : cl z = [] := List.eq_nil_of_length_eq_zero (by rw [cl_length]; exact h0)
      rw [this]; simp
    · have a0 : HT.sIx z.length 0 lo = 0 := by omega
      have aN : HT.sIx z.length z.length hi = z.length := by omega
      rw [a0, aN, List.drop_zero, Nat.sub_zero, ← cl_length, List.take_length]
  · exact p

section
variable {X : Cx}
def rSlS : V → Option Int → Option Int → Hp → VK → Prop := fun x lo hi H Q => ∃ z, x = .str z ∧ z.length ≤ sizeLine ∧ Q (.str (Txt.slice z lo hi)) H
theorem part_of {v : Value} {o : Option Int} (p : IsPart v o) : ∃ l : Option (Int × Tok), v = partValue l ∧ l.map (·.1) = o := by
  cases p with
  | none => exact ⟨none, rfl, rfl⟩
  | int i t => exact ⟨some (i, t), rfl, rfl⟩
theorem sl_str : SlR X rSlS := by
  intro pins s σ H x v vl vu lo hi sl Q I rx hs pl pu h
  obtain ⟨z, rfl, hz, q⟩ := h
  obtain ⟨t, rfl⟩ := rx
  obtain ⟨l, rfl, rfl⟩ := part_of pl
  obtain ⟨u, rfl, rfl⟩ := part_of pu
  refine ⟨"str", _, PySem.F.slot_str_getitem.lookup, typeIs_str _ _ _, ?_⟩
  refine wpAny_getItem_str_slice (l := l) (u := u) (st := none) hs rfl ?_
  refine post_val_or_str ⟨Nat.le_trans (Txt.slice_le z _ _) hz, fun t' k => ?_⟩
  exact ⟨.str (Txt.slice z (l.map (·.1)) (u.map (·.1))), H, I.tok _, ⟨_, rfl⟩, q⟩

theorem pe_ty {x : Str} {T : String} {pos : Pos} (hg : Gl X x) (hm : X.mg x = none) (hv : bootBuiltins x = some (.type T)) (hn : x ≠ "__name__" := by decide) (hdb : (x == ("__debug__" : Str)) = false := by decide) :
    PE X (.Name x pos) (tC (.ty T)) := pe_bltn (v := .ty T) hg hm hv rfl hn hdb
/-! ### an own def as a caller sees it -/
def Cal (P : Program) (w : World) (K : PySem.W.Frag) (mg : Str → Option Value) (base : Heap) (x : Str) (ps : List Str) (k : Nat) (sp : Sp) : Prop :=
  ∃ f fd, FnOk P w K mg base CX0 k f fd ps sp ∧ Binds K fd ps [] ∧ PySem.W.keepIn K (.ref f) = true ∧ mg x = some (.ref f)
def tFn (sp : Sp) (t : TA) : TE := fun σ H Q => t σ H fun vs H1 => sp vs H1 Q E0
theorem pe_fn {x : Str} {ps : List Str} {k k' : Nat} {sp : Sp} {p pos : Pos} {e : Expr} {es : List Expr} {t : TA} (C : Cal X.prog X.w X.K X.mg X.base x ps k sp) (hr : Room k' X.A) (hk : k ≤ k') (hg : Gl X x)
    (ha : PA X (e :: es) t) (hdb : (x == ("__debug__" : Str)) = false := by decide) (he : starEach (e :: es) X.env = (false, eval e X.env) :: starEach es X.env := by rfl) (hpl : (backTo pos (starEach es X.env)).any (·.1) = false := by rfl) :
    PE X (.Call (.Name x p) (e :: es) [] pos) (tFn sp t) := by
  obtain ⟨f, fd, F, b, kp, hm⟩ := C
  intro pins s σ H Q I h
  refine wpAny_Call_Name_kw (ld_glob I hg hm ?_ hdb)
  refine PySem.W.callWith_K (h₀ := X.base) I.ok.mod.kin kp (thn (ha pos pins s σ H _ I h) fun us s1 ⟨vs, H1, I1, r, q⟩ => ⟨I1.kIn, ?_⟩) he hpl
  exact run_fn (dvs := []) F (hr.mono hk) b .nil pass0 I1 r (by rw [List.append_nil]; exact q)
end
/-! ### a cut: what holds behind a statement, a value that is forgotten but for a word -/
section
variable {X : Cx}
def tMid (t u : TS) : TS := fun D σ H => ∃ M : L2.St → Hp → Prop, t { D with nx := M } σ H ∧ ∀ σ' H', M σ' H' → u D σ' H'
theorem pss_mid {st : Stmt} {rest : List Stmt} {t u : TS} (h1 : PS X st t) (h2 : PSs X rest u) : PSs X (st :: rest) (tMid t u) := by
  intro pins s σ H D I h
  obtain ⟨M, ht, hu⟩ := h
  refine wpAny_execs_cons (thn (h1 pins s σ H { D with nx := M } I ht) fun f s1 q => ?_)
  cases f with
  | next =>
    obtain ⟨σ', H', I', q⟩ := q
    exact h2 pins s1 σ' H' D I' (hu σ' H' q)
  | ret v => exact q
  | brk => exact q
  | cont => exact q
def tAbs (t : TE) : TE := fun σ H Q => ∃ P : V → Hp → Prop, t σ H P ∧ ∀ v H', P v H' → Q v H'
theorem pe_abs {e : Expr} {t : TE} (h : PE X e t) : PE X e (tAbs t) := by
  intro pins s σ H Q I hw
  obtain ⟨P, ht, hq⟩ := hw
  exact thn (h pins s σ H P I ht) fun u s1 ⟨v, H1, I1, r1, q1⟩ => ⟨v, H1, I1, r1, hq v H1 q1⟩
def rPick (K : PySem.W.Frag) : R2 := fun x y H Q => ∃ p xs i, x = .ref p ∧ y = .int i ∧ SqL K H p xs ∧ 0 ≤ i ∧ i < xs.length ∧ ∃ W : V → Prop, (∀ v ∈ xs, W v) ∧ ∀ v, W v → Q v H
theorem ix_pick : IxR X (rPick X.K) := by
  intro value slice pins s σ H x y v u Q I rx ry h hs
  obtain ⟨p, xs, i, rfl, rfl, hq, h0, h1, W, hW, q⟩ := h
  obtain ⟨n, rfl⟩ := Int.eq_ofNat_of_zero_le h0
  have hn : n < xs.length := by omega
  exact ix_list value slice pins s σ H _ _ v u Q I rx ry ⟨p, xs, _, xs[n], rfl, rfl, hq, atI_nat (by rw [List.getElem?_eq_getElem hn]), q _ (hW _ (List.getElem_mem hn))⟩ hs
end
theorem pz {j : Int} (h : decide (0 < j) = true := by decide) : 0 < j := of_decide_eq_true h
theorem iteD {c A B : Prop} [Decidable c] (hc : ¬ c) (h : B) : if decide c = true then A else B := by
  rw [decide_eq_false hc]
  exact iteF h
theorem iteDT {c A B : Prop} [Decidable c] (hc : c) (h : A) : if decide c = true then A else B := by
  rw [decide_eq_true hc]
  exact iteT h
theorem iteDd {c A B : Prop} [Decidable c] (h1 : c → A) (h2 : ¬ c → B) : if decide c = true then A else B := by
  by_cases h : c
  · exact iteDT h (h1 h)
  · exact iteD h (h2 h)
theorem same_new {H : Hp} {p : Addr} (h : H p = none) (o : HO) : Same H (upd H p o) := fun b u q => by rw [upd_ne (ne_of_none q h)]; exact q
theorem at_mem {α : Type} {xs : List α} {i : Int} (h0 : 0 ≤ i) (h1 : i < xs.length) : ∃ v, atI xs i = some v ∧ v ∈ xs := by
  obtain ⟨n, rfl⟩ := Int.eq_ofNat_of_zero_le h0
  have hn : n < xs.length := by omega
  exact ⟨xs[n], atI_nat (by rw [List.getElem?_eq_getElem hn]), List.getElem_mem hn⟩
theorem at_some {α : Type} {xs : List α} {i : Int} (h0 : 0 ≤ i) (h1 : i < xs.length) : ∃ v, atI xs i = some v ∧ xs[i.toNat]? = some v := by
  obtain ⟨n, rfl⟩ := Int.eq_ofNat_of_zero_le h0
  have hn : n < xs.length := by omega
  exact ⟨xs[n], atI_nat (by rw [List.getElem?_eq_getElem hn]), by simp [hn]⟩
theorem szl {n : Nat} (h : n ≤ 100000) : n ≤ sizeLine := Nat.le_trans h (by rw [sizeLine_eq]; decide)
end L3

/-! Deep data: what a value stands for (numbers, texts, tuples and lists within one another), and == and in over it. -/
namespace L3
open PySem PySem.Spec PyProof.Rows L2 PySem.SeqAt

inductive D where
  | non | bl (b : Bool) | int (i : Int) | str (x : Str) | tup (xs : List D) | lst (xs : List D)

mutual
def Rep (K : PySem.W.Frag) (H : Hp) : D → V → Prop
  | .non, v => v = .non
  | .bl b, v => v = .bl b
  | .int i, v => v = .int i
  | .str x, v => v = .str x
  | .tup ds, v => ∃ a xs, v = .ref a ∧ SqT K H a xs ∧ Reps K H ds xs
  | .lst ds, v => ∃ a xs, v = .ref a ∧ SqL K H a xs ∧ Reps K H ds xs
def Reps (K : PySem.W.Frag) (H : Hp) : List D → List V → Prop
  | [], vs => vs = []
  | d :: ds, vs => ∃ v r, vs = v :: r ∧ Rep K H d v ∧ Reps K H ds r
end
theorem Same.seqT {K : PySem.W.Frag} {H H' : Hp} {a : Addr} {xs : List V} (e : Same H H') (h : SqT K H a xs) : SqT K H' a xs := by
  rcases h with (h | ⟨o, h⟩) | h
  · exact .inl (.inl (e _ _ h))
  · exact .inl (.inr ⟨o, e _ _ h⟩)
  · exact .inr h
mutual
theorem Rep.mono {K : PySem.W.Frag} {H H' : Hp} (g : Same H H') : ∀ (d : D) (v : V), Rep K H d v → Rep K H' d v
  | .non, _, h => by unfold Rep at h ⊢; exact h
  | .bl _, _, h => by unfold Rep at h ⊢; exact h
  | .int _, _, h => by unfold Rep at h ⊢; exact h
  | .str _, _, h => by unfold Rep at h ⊢; exact h
  | .tup ds, _, h => by
    unfold Rep at h ⊢
    obtain ⟨a, xs, e, q, r⟩ := h
    exact ⟨a, xs, e, Same.seqT g q, Reps.mono g ds xs r⟩
  | .lst ds, _, h => by
    unfold Rep at h ⊢
    obtain ⟨a, xs, e, q, r⟩ := h
    exact ⟨a, xs, e, g.seq q, Reps.mono g ds xs r⟩
theorem Reps.mono {K : PySem.W.Frag} {H H' : Hp} (g : Same H H') : ∀ (ds : List D) (vs : List V), Reps K H ds vs → Reps K H' ds vs
  | [], _, h => by unfold Reps at h ⊢; exact h
  | d :: ds, _, h => by
    unfold Reps at h ⊢
    obtain ⟨v, r, e, q, t⟩ := h
    exact ⟨v, r, e, Rep.mono g d v q, Reps.mono g ds r t⟩
end
theorem Reps.nil {K : PySem.W.Frag} {H : Hp} : Reps K H [] [] := by unfold Reps; rfl
theorem Reps.cons {K : PySem.W.Frag} {H : Hp} {d : D} {v : V} {ds : List D} {vs : List V} (h : Rep K H d v) (t : Reps K H ds vs) : Reps K H (d :: ds) (v :: vs) := by
  unfold Reps; exact ⟨v, vs, rfl, h, t⟩
theorem Reps.inv {K : PySem.W.Frag} {H : Hp} {d : D} {ds : List D} {vs : List V} (h : Reps K H (d :: ds) vs) : ∃ v r, vs = v :: r ∧ Rep K H d v ∧ Reps K H ds r := by
  unfold Reps at h; exact h
theorem Reps.inv0 {K : PySem.W.Frag} {H : Hp} {vs : List V} (h : Reps K H [] vs) : vs = [] := by
  unfold Reps at h; exact h
theorem Reps.length {K : PySem.W.Frag} {H : Hp} : ∀ {ds : List D} {vs : List V}, Reps K H ds vs → ds.length = vs.length
  | [], _, h => by rw [h.inv0]; rfl
  | d :: ds, _, h => by
    obtain ⟨v, r, rfl, _, t⟩ := h.inv
    rw [List.length_cons, List.length_cons, Reps.length t]
/-! ### Python's == -/
mutual
def eqD : D → D → Bool
  | .non, .non => true
  | .bl a, .bl b => a == b
  | .bl a, .int b => (if a then 1 else 0) == b
  | .int a, .bl b => a == (if b then 1 else 0)
  | .int a, .int b => a == b
  | .str a, .str b => a == b
  | .tup xs, .tup ys => eqDs xs ys
  | .lst xs, .lst ys => eqDs xs ys
  | _, _ => false
def eqDs : List D → List D → Bool
  | [], [] => true
  | x :: xs, y :: ys => eqD x y && eqDs xs ys
  | _, _ => false
end
mutual
def deep : D → Nat
  | .tup xs => deeps xs + 1
  | .lst xs => deeps xs + 1
  | _ => 0
def deeps : List D → Nat
  | [] => 0
  | x :: xs => max (deep x) (deeps xs)
end
mutual
theorem eqD_refl : ∀ d : D, eqD d d = true
  | .non => by simp [eqD]
  | .bl b => by simp [eqD]
  | .int i => by simp [eqD]
  | .str x => by simp [eqD]
  | .tup xs => by rw [eqD]; exact eqDs_refl xs
  | .lst xs => by rw [eqD]; exact eqDs_refl xs
theorem eqDs_refl : ∀ xs : List D, eqDs xs xs = true
  | [] => by simp [eqDs]
  | x :: xs => by rw [eqDs, eqD_refl x, eqDs_refl xs]; rfl
end
/-! no truths within -/
mutual
def noB : D → Bool
  | .bl _ => false
  | .tup xs => noBs xs
  | .lst xs => noBs xs
  | _ => true
def noBs : List D → Bool
  | [] => true
  | x :: xs => noB x && noBs xs
end
mutual
theorem eqD_eq : ∀ d e : D, noB d = true → noB e = true → eqD d e = true → d = e
  | .non, e, _, h2, h => by cases e <;> simp_all [eqD]
  | .bl b, e, h1, _, _ => by simp [noB] at h1
  | .int i, e, _, h2, h => by cases e <;> simp_all [eqD, noB]
  | .str x, e, _, h2, h => by cases e <;> simp_all [eqD]
  | .tup xs, e, h1, h2, h => by
    cases e <;> simp only [eqD, noB, Bool.false_eq_true] at h1 h2 h
    rw [eqDs_eq _ _ h1 h2 h]
  | .lst xs, e, h1, h2, h => by
    cases e <;> simp only [eqD, noB, Bool.false_eq_true] at h1 h2 h
    rw [eqDs_eq _ _ h1 h2 h]
theorem eqDs_eq : ∀ xs ys : List D, noBs xs = true → noBs ys = true → eqDs xs ys = true → xs = ys
  | [], ys, _, _, h => by cases ys <;> simp_all [eqDs]
  | x :: xs, ys, h1, h2, h => by
    cases ys with
    | nil => simp [eqDs] at h
    | cons y ys =>
      simp only [eqDs, noBs, Bool.and_eq_true] at h1 h2 h
      rw [eqD_eq x y h1.1 h2.1 h.1, eqDs_eq xs ys h1.2 h2.2 h.2]
end
def pickEq (xs ys : List D) (j : Nat) : Bool := match xs[j]?, ys[j]? with
  | some x, some y => eqD x y
  | _, _ => false
theorem eqDs_all : ∀ xs ys : List D, eqDs xs ys = ((List.range (min xs.length ys.length)).all (pickEq xs ys) && (xs.length == ys.length))
  | [], [] => by simp [eqDs]
  | [], y :: ys => by simp [eqDs]
  | x :: xs, [] => by simp [eqDs]
  | x :: xs, y :: ys => by
    have ih := eqDs_all xs ys
    have e : min (x :: xs).length (y :: ys).length = min xs.length ys.length + 1 := by simp only [List.length_cons]; omega
    have p : pickEq (x :: xs) (y :: ys) ∘ Nat.succ = pickEq xs ys := by
      funext j; simp [pickEq]
    rw [eqDs, e, List.range_succ_eq_map, List.all_cons, List.all_map, p, ih]
    have q : pickEq (x :: xs) (y :: ys) 0 = eqD x y := by simp [pickEq]
    have l : ((x :: xs).length == (y :: ys).length) = (xs.length == ys.length) := by
      simp only [List.length_cons]
      by_cases h : xs.length = ys.length <;> simp [h]
    rw [q, l, Bool.and_assoc]

section
variable {X : Cx} {pins : List (Addr × Obj)} {σ : L2.St} {H : Hp} {s : Shared}
/-! a value stands for one datum -/
mutual
theorem Rep.inj (I : Inv X pins σ H s) : ∀ (d e : D) (v : V), Rep X.K H d v → Rep X.K H e v → d = e
  | .non, e, v, h, k => by unfold Rep at h; subst h; cases e <;> simp [Rep] at k <;> rfl
  | .bl b, e, v, h, k => by unfold Rep at h; subst h; cases e <;> simp [Rep] at k; rw [k]
  | .int i, e, v, h, k => by unfold Rep at h; subst h; cases e <;> simp [Rep] at k; rw [k]
  | .str x, e, v, h, k => by unfold Rep at h; subst h; cases e <;> simp [Rep] at k; rw [k]
  | .tup ds, e, v, h, k => by
    unfold Rep at h
    obtain ⟨a, xs, rfl, q, r⟩ := h
    cases e with
    | tup es =>
      unfold Rep at k
      obtain ⟨b, ys, e1, q2, r2⟩ := k
      cases e1
      have := I.tuple_inj q q2
      subst this
      rw [Reps.inj I ds es xs r r2]
    | lst es =>
      unfold Rep at k
      obtain ⟨b, ys, e1, q2, r2⟩ := k
      cases e1
      obtain ⟨i1, _, t1, _⟩ := I.tuple q
      obtain ⟨i2, _, t2, _⟩ := I.list q2
      exact absurd rfl (ne_of_list_tuple t2.isList (let ⟨o, h1, h2, n, h3⟩ := t1; ⟨o, h1, h2, n, h3⟩))
    | _ => simp [Rep] at k
  | .lst ds, e, v, h, k => by
    unfold Rep at h
    obtain ⟨a, xs, rfl, q, r⟩ := h
    cases e with
    | lst es =>
      unfold Rep at k
      obtain ⟨b, ys, e1, q2, r2⟩ := k
      cases e1
      have := I.list_inj q q2
      subst this
      rw [Reps.inj I ds es xs r r2]
    | tup es =>
      unfold Rep at k
      obtain ⟨b, ys, e1, q2, r2⟩ := k
      cases e1
      obtain ⟨i1, _, t1, _⟩ := I.tuple q2
      obtain ⟨i2, _, t2, _⟩ := I.list q
      exact absurd rfl (ne_of_list_tuple t2.isList (let ⟨o, h1, h2, n, h3⟩ := t1; ⟨o, h1, h2, n, h3⟩))
    | _ => simp [Rep] at k
theorem Reps.inj (I : Inv X pins σ H s) : ∀ (ds es : List D) (vs : List V), Reps X.K H ds vs → Reps X.K H es vs → ds = es
  | [], es, vs, h, k => by
    rw [h.inv0] at k
    cases es with
    | nil => rfl
    | cons e es => obtain ⟨_, _, z, _⟩ := k.inv; cases z
  | d :: ds, es, vs, h, k => by
    obtain ⟨v, r, rfl, q, t⟩ := h.inv
    cases es with
    | nil => have z := k.inv0; cases z
    | cons e es =>
      obtain ⟨_, _, z, q2, t2⟩ := k.inv
      cases z
      rw [Rep.inj I d e v q q2, Reps.inj I ds es r t t2]
end
end
end L3

/-! == and != and in over deep data. -/
namespace L3
open PySem PySem.Spec PyProof.Rows L2 PySem.SeqAt
section
variable {X : Cx} {pins : List (Addr × Obj)} {σ : L2.St} {H : Hp} {s : Shared} {A : Around}
theorem in1_units (A : Around) : A.in1.units = A.units + 1 := rfl
abbrev Elts (A : Around) (s : Shared) (xs ys : List V) (ds es : List D) : Prop :=
  ∀ us ws, Vals xs us → Vals ys ws → ∀ (j : Nat) v u, us[j]? = some v → ws[j]? = some u → EqAt A s v u (pickEq ds es j)
theorem rc_tup {a b : Addr} {xs ys : List V} {ds es : List D} (I : Inv X pins σ H s) (q : SqT X.K H a xs) (r : Reps X.K H ds xs) (q2 : SqT X.K H b ys) (r2 : Reps X.K H es ys) (hu : A.units < cLine) (he : Elts A.in1 s xs ys ds es) :
    RcAt A s (.ref a) (.ref b) (eqDs ds es) ∧ RcNeAt A s (.ref a) (.ref b) (!eqDs ds es) := by
  obtain ⟨us, rv, t1, _⟩ := I.tuple q
  obtain ⟨ws, rw', t2, _⟩ := I.tuple q2
  have l1 : us.toArray.size = ds.length := by rw [List.size_toArray, ← rv.length, r.length]
  have l2 : ws.toArray.size = es.length := by rw [List.size_toArray, ← rw'.length, r2.length]
  have el : ∀ j (h1 : j < us.toArray.size) (h2 : j < ws.toArray.size), EqAt A.in1 s us.toArray[j] ws.toArray[j] (pickEq ds es j) := fun j h1 h2 =>
    he us ws rv rw' j _ _ (by simp at h1 ⊢) (by simp at h2 ⊢)
  have e := RcAt.tuples (A := A) (s := s) (l := a) (b := b) t1 t2 hu el
  have n := RcNeAt.tuples (A := A) (s := s) (l := a) (b := b) t1 t2 hu el
  rw [l1, l2, ← eqDs_all] at e n
  exact ⟨e, n⟩
theorem rc_lst {a b : Addr} {xs ys : List V} {ds es : List D} (I : Inv X pins σ H s) (q : SqL X.K H a xs) (r : Reps X.K H ds xs) (q2 : SqL X.K H b ys) (r2 : Reps X.K H es ys) (hu : A.units < cLine) (he : Elts A.in1 s xs ys ds es) :
    RcAt A s (.ref a) (.ref b) (eqDs ds es) ∧ RcNeAt A s (.ref a) (.ref b) (!eqDs ds es) := by
  obtain ⟨us, rv, t1, _⟩ := I.list q
  obtain ⟨ws, rw', t2, _⟩ := I.list q2
  have l1 : us.toArray.size = ds.length := by rw [List.size_toArray, ← rv.length, r.length]
  have l2 : ws.toArray.size = es.length := by rw [List.size_toArray, ← rw'.length, r2.length]
  have el : ∀ j (h1 : j < us.toArray.size) (h2 : j < ws.toArray.size), EqAt A.in1 s us.toArray[j] ws.toArray[j] (pickEq ds es j) := fun j h1 h2 =>
    he us ws rv rw' j _ _ (by simp at h1 ⊢) (by simp at h2 ⊢)
  by_cases hl : ds.length = es.length
  · have e := RcAt.lists (A := A) (s := s) (l := a) (b := b) t1.isList t2.isList (by omega) hu el
    have n := RcNeAt.lists (A := A) (s := s) (l := a) (b := b) t1.isList t2.isList (by omega) hu el
    have z : eqDs ds es = (List.range ds.length).all (pickEq ds es) := by
      rw [eqDs_all, hl]; simp
    rw [l1, ← z] at e n
    exact ⟨e, n⟩
  · have hs : (us.toArray.size != ws.toArray.size) = true := by rw [l1, l2]; simpa using hl
    have e := RcAt.lists_lengths (A := A) (s := s) (l := a) (b := b) t1.isList t2.isList hs hu
    have n := RcNeAt.lists_lengths (A := A) (s := s) (l := a) (b := b) t1.isList t2.isList hs hu
    have z : eqDs ds es = false := by
      rw [eqDs_all]; simp [hl]
    rw [z]
    exact ⟨e, n⟩
mutual
theorem eqAtD (I : Inv X pins σ H s) : ∀ (d e : D) (A : Around) (v u : V) (v' u' : Value), Rep X.K H d v → Rep X.K H e u → RelV v v' → RelV u u' → A.units + deep d < cLine → EqAt A s v' u' (eqD d e)
  | .non, e, A, v, u, v', u', hd, he, rv, ru, hu => by
    unfold Rep at hd; subst hd; cases rv
    cases e <;> unfold Rep at he
    · subst he; cases ru; exact EqAt.same _
    · subst he; cases ru; exact EqAt.none_bool _
    · subst he; obtain ⟨t, rfl⟩ := ru; exact EqAt.none_int _ _
    · subst he; obtain ⟨t, rfl⟩ := ru; exact EqAt.none_str _ _
    · obtain ⟨a, xs, rfl, q, _⟩ := he; cases ru; obtain ⟨_, _, t, _⟩ := I.tuple q; exact EqAt.none_tuple t (by omega)
    · obtain ⟨a, xs, rfl, q, _⟩ := he; cases ru; obtain ⟨_, _, t, _⟩ := I.list q; exact EqAt.none_list t.isList (by omega)
  | .bl b, e, A, v, u, v', u', hd, he, rv, ru, hu => by
    unfold Rep at hd; subst hd; cases rv
    cases e <;> unfold Rep at he
    · subst he; cases ru; exact EqAt.bool_none _
    · subst he; cases ru; exact EqAt.bool_bool _ _
    · subst he; obtain ⟨t, rfl⟩ := ru; exact EqAt.bool_int _ _ _
    · subst he; obtain ⟨t, rfl⟩ := ru; exact EqAt.bool_str _ _ _
    · obtain ⟨a, xs, rfl, q, _⟩ := he; cases ru; obtain ⟨_, _, t, _⟩ := I.tuple q; exact EqAt.bool_tuple _ t (by omega)
    · obtain ⟨a, xs, rfl, q, _⟩ := he; cases ru; obtain ⟨_, _, t, _⟩ := I.list q; exact EqAt.bool_list _ t.isList (by omega)
  | .int i, e, A, v, u, v', u', hd, he, rv, ru, hu => by
    unfold Rep at hd; subst hd; obtain ⟨t0, rfl⟩ := rv
    cases e <;> unfold Rep at he
    · subst he; cases ru; exact EqAt.int_none _ _
    · subst he; cases ru; exact EqAt.int_bool _ _ _
    · subst he; obtain ⟨t, rfl⟩ := ru; exact EqAt.int_int _ _ _ _
    · subst he; obtain ⟨t, rfl⟩ := ru; exact EqAt.int_str _ _ _ _
    · obtain ⟨a, xs, rfl, q, _⟩ := he; cases ru; obtain ⟨_, _, t, _⟩ := I.tuple q; exact EqAt.int_tuple _ _ t (by omega)
    · obtain ⟨a, xs, rfl, q, _⟩ := he; cases ru; obtain ⟨_, _, t, _⟩ := I.list q; exact EqAt.int_list _ _ t.isList (by omega)
  | .str x, e, A, v, u, v', u', hd, he, rv, ru, hu => by
    unfold Rep at hd; subst hd; obtain ⟨t0, rfl⟩ := rv
    cases e <;> unfold Rep at he
    · subst he; cases ru; exact EqAt.str_none _ _
    · subst he; cases ru; exact EqAt.str_bool _ _ _
    · subst he; obtain ⟨t, rfl⟩ := ru; exact EqAt.str_int _ _ _ _
    · subst he; obtain ⟨t, rfl⟩ := ru; exact EqAt.str_str _ _ _ _
    · obtain ⟨a, xs, rfl, q, _⟩ := he; cases ru; obtain ⟨_, _, t, _⟩ := I.tuple q; exact EqAt.str_tuple _ _ t (by omega)
    · obtain ⟨a, xs, rfl, q, _⟩ := he; cases ru; obtain ⟨_, _, t, _⟩ := I.list q; exact EqAt.str_list _ _ t.isList (by omega)
  | .tup ds, e, A, v, u, v', u', hd, he, rv, ru, hu => by
    have hd0 := hd
    have he0 := he
    unfold Rep at hd
    obtain ⟨a, xs, rfl, q, r⟩ := hd
    cases rv
    rw [deep] at hu
    obtain ⟨_, _, t0, _⟩ := I.tuple q
    cases e <;> unfold Rep at he
    · subst he; cases ru; exact EqAt.tuple_none t0 (by omega)
    · subst he; cases ru; exact EqAt.tuple_bool _ t0 (by omega)
    · subst he; obtain ⟨t, rfl⟩ := ru; exact EqAt.tuple_int _ _ t0 (by omega)
    · subst he; obtain ⟨t, rfl⟩ := ru; exact EqAt.tuple_str _ _ t0 (by omega)
    · rename_i es
      obtain ⟨b, ys, rfl, q2, r2⟩ := he
      cases ru
      by_cases hab : a = b
      · subst hab
        rw [Rep.inj I _ _ _ hd0 he0, eqD_refl]
        exact EqAt.same _
      · rw [eqD]
        exact EqAt.of_refs hab (rc_tup I q r q2 r2 (by omega) fun us ws w1 w2 j v u e1 e2 => eqAtDs I ds es A.in1 xs ys us ws r r2 w1 w2 (by rw [in1_units]; omega) j v u e1 e2).1
    · obtain ⟨b, ys, rfl, q2, r2⟩ := he
      cases ru
      obtain ⟨_, _, t, _⟩ := I.list q2
      exact EqAt.tuple_list t0 t.isList (by omega)
  | .lst ds, e, A, v, u, v', u', hd, he, rv, ru, hu => by
    have hd0 := hd
    have he0 := he
    unfold Rep at hd
    obtain ⟨a, xs, rfl, q, r⟩ := hd
    cases rv
    rw [deep] at hu
    obtain ⟨_, _, t0, _⟩ := I.list q
    cases e <;> unfold Rep at he
    · subst he; cases ru; exact EqAt.list_none t0.isList (by omega)
    · subst he; cases ru; exact EqAt.list_bool _ t0.isList (by omega)
    · subst he; obtain ⟨t, rfl⟩ := ru; exact EqAt.list_int _ _ t0.isList (by omega)
    · subst he; obtain ⟨t, rfl⟩ := ru; exact EqAt.list_str _ _ t0.isList (by omega)
    · obtain ⟨b, ys, rfl, q2, r2⟩ := he
      cases ru
      obtain ⟨_, _, t, _⟩ := I.tuple q2
      exact EqAt.list_tuple t0.isList t (by omega)
    · rename_i es
      obtain ⟨b, ys, rfl, q2, r2⟩ := he
      cases ru
      by_cases hab : a = b
      · subst hab
        rw [Rep.inj I _ _ _ hd0 he0, eqD_refl]
        exact EqAt.same _
      · rw [eqD]
        exact EqAt.of_refs hab (rc_lst I q r q2 r2 (by omega) fun us ws w1 w2 j v u e1 e2 => eqAtDs I ds es A.in1 xs ys us ws r r2 w1 w2 (by rw [in1_units]; omega) j v u e1 e2).1
theorem eqAtDs (I : Inv X pins σ H s) : ∀ (ds es : List D) (A : Around) (xs ys : List V) (us ws : List Value), Reps X.K H ds xs → Reps X.K H es ys → Vals xs us → Vals ys ws → A.units + deeps ds < cLine →
    ∀ (j : Nat) v u, us[j]? = some v → ws[j]? = some u → EqAt A s v u (pickEq ds es j)
  | [], es, A, xs, ys, us, ws, hd, he, rv, ru, hu, j, v, u, e1, e2 => by
    rw [hd.inv0] at rv; cases rv; simp at e1
  | d :: ds, [], A, xs, ys, us, ws, hd, he, rv, ru, hu, j, v, u, e1, e2 => by
    rw [he.inv0] at ru; cases ru; simp at e2
  | d :: ds, e :: es, A, xs, ys, us, ws, hd, he, rv, ru, hu, j, v, u, e1, e2 => by
    obtain ⟨x, xs, rfl, hx, hxs⟩ := hd.inv
    obtain ⟨y, ys, rfl, hy, hys⟩ := he.inv
    rw [deeps] at hu
    cases rv with
    | cons rv1 rv2 =>
      cases ru with
      | cons ru1 ru2 =>
        cases j with
        | zero =>
          simp at e1 e2
          subst e1 e2
          have p : pickEq (d :: ds) (e :: es) 0 = eqD d e := by simp [pickEq]
          rw [p]
          exact eqAtD I d e A x y _ _ hx hy rv1 ru1 (by omega)
        | succ j =>
          have p : pickEq (d :: ds) (e :: es) (j + 1) = pickEq ds es j := by simp [pickEq]
          rw [p]
          exact eqAtDs I ds es A xs ys _ _ hxs hys rv2 ru2 (by omega) j v u (by simpa using e1) (by simpa using e2)
end
theorem rcD (I : Inv X pins σ H s) (d e : D) {v u : V} {v' u' : Value} (hd : Rep X.K H d v) (he : Rep X.K H e u) (rv : RelV v v') (ru : RelV u u') (hu : A.units + deep d < cLine) : RcAt A s v' u' (eqD d e) ∧ RcNeAt A s v' u' (!eqD d e) := by
  cases d with
  | non =>
    unfold Rep at hd
    subst hd; cases rv
    cases e with
    | non =>
      unfold Rep at he
      subst he; cases ru
      exact ⟨RcAt.none_none , RcNeAt.none_none ⟩
    | bl b1 =>
      unfold Rep at he
      subst he; cases ru
      exact ⟨RcAt.none_bool _ , RcNeAt.none_bool _ ⟩
    | int i1 =>
      unfold Rep at he
      subst he; obtain ⟨t1, rfl⟩ := ru
      exact ⟨RcAt.none_int _ _ , RcNeAt.none_int _ _ ⟩
    | str x1 =>
      unfold Rep at he
      subst he; obtain ⟨t1, rfl⟩ := ru
      exact ⟨RcAt.none_str _ _ , RcNeAt.none_str _ _ ⟩
    | tup es =>
      unfold Rep at he
      obtain ⟨b, ys, rfl, q2, r2⟩ := he
      cases ru
      obtain ⟨_, _, t1, _⟩ := I.tuple q2
      exact ⟨RcAt.none_tuple t1 (by omega), RcNeAt.none_tuple t1 (by omega)⟩
    | lst es =>
      unfold Rep at he
      obtain ⟨b, ys, rfl, q2, r2⟩ := he
      cases ru
      obtain ⟨_, _, t1, _⟩ := I.list q2
      exact ⟨RcAt.none_list t1.isList (by omega), RcNeAt.none_list t1.isList (by omega)⟩
  | bl b0 =>
    unfold Rep at hd
    subst hd; cases rv
    cases e with
    | non =>
      unfold Rep at he
      subst he; cases ru
      exact ⟨RcAt.bool_none _ , RcNeAt.bool_none _ ⟩
    | bl b1 =>
      unfold Rep at he
      subst he; cases ru
      exact ⟨RcAt.bool_bool _ _ , RcNeAt.bool_bool _ _ ⟩
    | int i1 =>
      unfold Rep at he
      subst he; obtain ⟨t1, rfl⟩ := ru
      exact ⟨RcAt.bool_int _ _ _ , RcNeAt.bool_int _ _ _ ⟩
    | str x1 =>
      unfold Rep at he
      subst he; obtain ⟨t1, rfl⟩ := ru
      exact ⟨RcAt.bool_str _ _ _ , RcNeAt.bool_str _ _ _ ⟩
    | tup es =>
      unfold Rep at he
      obtain ⟨b, ys, rfl, q2, r2⟩ := he
      cases ru
      obtain ⟨_, _, t1, _⟩ := I.tuple q2
      exact ⟨RcAt.bool_tuple _ t1 (by omega), RcNeAt.bool_tuple _ t1 (by omega)⟩
    | lst es =>
      unfold Rep at he
      obtain ⟨b, ys, rfl, q2, r2⟩ := he
      cases ru
      obtain ⟨_, _, t1, _⟩ := I.list q2
      exact ⟨RcAt.bool_list _ t1.isList (by omega), RcNeAt.bool_list _ t1.isList (by omega)⟩
  | int i0 =>
    unfold Rep at hd
    subst hd; obtain ⟨t0, rfl⟩ := rv
    cases e with
    | non =>
      unfold Rep at he
      subst he; cases ru
      exact ⟨RcAt.int_none _ _ , RcNeAt.int_none _ _ ⟩
    | bl b1 =>
      unfold Rep at he
      subst he; cases ru
      exact ⟨RcAt.int_bool _ _ _ , RcNeAt.int_bool _ _ _ ⟩
    | int i1 =>
      unfold Rep at he
      subst he; obtain ⟨t1, rfl⟩ := ru
      exact ⟨RcAt.int_int _ _ _ _ , RcNeAt.int_int _ _ _ _ ⟩
    | str x1 =>
      unfold Rep at he
      subst he; obtain ⟨t1, rfl⟩ := ru
      exact ⟨RcAt.int_str _ _ _ _ , RcNeAt.int_str _ _ _ _ ⟩
    | tup es =>
      unfold Rep at he
      obtain ⟨b, ys, rfl, q2, r2⟩ := he
      cases ru
      obtain ⟨_, _, t1, _⟩ := I.tuple q2
      exact ⟨RcAt.int_tuple _ _ t1 (by omega), RcNeAt.int_tuple _ _ t1 (by omega)⟩
    | lst es =>
      unfold Rep at he
      obtain ⟨b, ys, rfl, q2, r2⟩ := he
      cases ru
      obtain ⟨_, _, t1, _⟩ := I.list q2
      exact ⟨RcAt.int_list _ _ t1.isList (by omega), RcNeAt.int_list _ _ t1.isList (by omega)⟩
  | str x0 =>
    unfold Rep at hd
    subst hd; obtain ⟨t0, rfl⟩ := rv
    cases e with
    | non =>
      unfold Rep at he
      subst he; cases ru
      exact ⟨RcAt.str_none _ _ , RcNeAt.str_none _ _ ⟩
    | bl b1 =>
      unfold Rep at he
      subst he; cases ru
      exact ⟨RcAt.str_bool _ _ _ , RcNeAt.str_bool _ _ _ ⟩
    | int i1 =>
      unfold Rep at he
      subst he; obtain ⟨t1, rfl⟩ := ru
      exact ⟨RcAt.str_int _ _ _ _ , RcNeAt.str_int _ _ _ _ ⟩
    | str x1 =>
      unfold Rep at he
      subst he; obtain ⟨t1, rfl⟩ := ru
      exact ⟨RcAt.str_str _ _ _ _ , RcNeAt.str_str _ _ _ _ ⟩
    | tup es =>
      unfold Rep at he
      obtain ⟨b, ys, rfl, q2, r2⟩ := he
      cases ru
      obtain ⟨_, _, t1, _⟩ := I.tuple q2
      exact ⟨RcAt.str_tuple _ _ t1 (by omega), RcNeAt.str_tuple _ _ t1 (by omega)⟩
    | lst es =>
      unfold Rep at he
      obtain ⟨b, ys, rfl, q2, r2⟩ := he
      cases ru
      obtain ⟨_, _, t1, _⟩ := I.list q2
      exact ⟨RcAt.str_list _ _ t1.isList (by omega), RcNeAt.str_list _ _ t1.isList (by omega)⟩
  | tup ds =>
    unfold Rep at hd
    obtain ⟨a, xs, rfl, q, r⟩ := hd
    cases rv
    rw [deep] at hu
    obtain ⟨_, _, t0, _⟩ := I.tuple q
    cases e with
    | non =>
      unfold Rep at he
      subst he; cases ru
      exact ⟨RcAt.tuple_none t0 (by omega), RcNeAt.tuple_none t0 (by omega)⟩
    | bl b1 =>
      unfold Rep at he
      subst he; cases ru
      exact ⟨RcAt.tuple_bool _ t0 (by omega), RcNeAt.tuple_bool _ t0 (by omega)⟩
    | int i1 =>
      unfold Rep at he
      subst he; obtain ⟨t1, rfl⟩ := ru
      exact ⟨RcAt.tuple_int _ _ t0 (by omega), RcNeAt.tuple_int _ _ t0 (by omega)⟩
    | str x1 =>
      unfold Rep at he
      subst he; obtain ⟨t1, rfl⟩ := ru
      exact ⟨RcAt.tuple_str _ _ t0 (by omega), RcNeAt.tuple_str _ _ t0 (by omega)⟩
    | tup es =>
      unfold Rep at he
      obtain ⟨b, ys, rfl, q2, r2⟩ := he
      cases ru
      obtain ⟨_, _, t1, _⟩ := I.tuple q2
      have z := rc_tup I q r q2 r2 (A := A) (by omega) fun us ws w1 w2 j v u e1 e2 => eqAtDs I ds es A.in1 xs ys us ws r r2 w1 w2 (by rw [in1_units]; omega) j v u e1 e2
      rw [eqD]; exact z
    | lst es =>
      unfold Rep at he
      obtain ⟨b, ys, rfl, q2, r2⟩ := he
      cases ru
      obtain ⟨_, _, t1, _⟩ := I.list q2
      exact ⟨RcAt.tuple_list t0 t1.isList (by omega), RcNeAt.tuple_list t0 t1.isList (by omega)⟩
  | lst ds =>
    unfold Rep at hd
    obtain ⟨a, xs, rfl, q, r⟩ := hd
    cases rv
    rw [deep] at hu
    obtain ⟨_, _, t0, _⟩ := I.list q
    cases e with
    | non =>
      unfold Rep at he
      subst he; cases ru
      exact ⟨RcAt.list_none t0.isList (by omega), RcNeAt.list_none t0.isList (by omega)⟩
    | bl b1 =>
      unfold Rep at he
      subst he; cases ru
      exact ⟨RcAt.list_bool _ t0.isList (by omega), RcNeAt.list_bool _ t0.isList (by omega)⟩
    | int i1 =>
      unfold Rep at he
      subst he; obtain ⟨t1, rfl⟩ := ru
      exact ⟨RcAt.list_int _ _ t0.isList (by omega), RcNeAt.list_int _ _ t0.isList (by omega)⟩
    | str x1 =>
      unfold Rep at he
      subst he; obtain ⟨t1, rfl⟩ := ru
      exact ⟨RcAt.list_str _ _ t0.isList (by omega), RcNeAt.list_str _ _ t0.isList (by omega)⟩
    | tup es =>
      unfold Rep at he
      obtain ⟨b, ys, rfl, q2, r2⟩ := he
      cases ru
      obtain ⟨_, _, t1, _⟩ := I.tuple q2
      exact ⟨RcAt.list_tuple t0.isList t1 (by omega), RcNeAt.list_tuple t0.isList t1 (by omega)⟩
    | lst es =>
      unfold Rep at he
      obtain ⟨b, ys, rfl, q2, r2⟩ := he
      cases ru
      obtain ⟨_, _, t1, _⟩ := I.list q2
      have z := rc_lst I q r q2 r2 (A := A) (by omega) fun us ws w1 w2 j v u e1 e2 => eqAtDs I ds es A.in1 xs ys us ws r r2 w1 w2 (by rw [in1_units]; omega) j v u e1 e2
      rw [eqD]; exact z
def rNeD (K : PySem.W.Frag) : R2 := fun x y H Q => ∃ d e, Rep K H d x ∧ Rep K H e y ∧ deep d ≤ 60 ∧ Q (.bl (!eqD d e)) H
theorem op_neD (hu : X.A.units + 64 < cLine) : OpR X (compareOp .NotEq) (rNeD X.K) := by
  intro pins s σ H x y v u Q I rx ry h
  obtain ⟨d, e, hd, he, hz, q⟩ := h
  exact (rcD (A := X.A) I d e hd he rx ry (by omega)).2 X.prog X.w X.xe _ ⟨.bl (!eqD d e), H, I, rfl, q⟩
noncomputable def absD (K : PySem.W.Frag) (H : Hp) (u : Value) : D := by
  classical exact if h : ∃ d v, RelV v u ∧ Rep K H d v then h.choose else .non
theorem absD_eq {d : D} {v : V} {u : Value} (I : Inv X pins σ H s) (r : RelV v u) (h : Rep X.K H d v) : absD X.K H u = d := by
  have hx : ∃ d v, RelV v u ∧ Rep X.K H d v := ⟨d, v, r, h⟩
  unfold absD
  rw [dif_pos hx]
  obtain ⟨v2, r2, h2⟩ := hx.choose_spec
  have := r2.inj r
  subst this
  exact Rep.inj I _ _ _ h2 h
theorem any_vals {K : PySem.W.Frag} {H : Hp} {d : D} (f : Value → D) : ∀ {ds : List D} {xs : List V} {us : List Value}, Reps K H ds xs → Vals xs us → (∀ d v u, Rep K H d v → RelV v u → f u = d) → (us.any fun u => eqD (f u) d) = ds.any fun e => eqD e d
  | [], _, _, h, rv, _ => by rw [h.inv0] at rv; cases rv; rfl
  | e :: ds, _, _, h, rv, hf => by
    obtain ⟨v, r, rfl, q, t⟩ := h.inv
    cases rv with
    | cons r1 r2 => rw [List.any_cons, List.any_cons, hf _ _ _ q r1, any_vals f t r2 hf]
theorem mem_rep {K : PySem.W.Frag} {H : Hp} : ∀ {ds : List D} {xs : List V} {us : List Value}, Reps K H ds xs → Vals xs us → ∀ u ∈ us, ∃ d v, Rep K H d v ∧ RelV v u ∧ deep d ≤ deeps ds
  | [], _, _, h, rv, u, hu => by rw [h.inv0] at rv; cases rv; cases hu
  | e :: ds, _, _, h, rv, u, hu => by
    obtain ⟨v, r, rfl, q, t⟩ := h.inv
    cases rv with
    | cons r1 r2 =>
      rw [deeps]
      rcases List.mem_cons.mp hu with z | z
      · subst z; exact ⟨e, v, q, r1, by omega⟩
      · obtain ⟨d, w', a, b, c⟩ := mem_rep t r2 u z
        exact ⟨d, w', a, b, by omega⟩
def rInD (K : PySem.W.Frag) (neg : Bool) : R2 := fun x y H Q => ∃ d p xs ds, Rep K H d x ∧ y = .ref p ∧ SqL K H p xs ∧ Reps K H ds xs ∧ deeps ds ≤ 60 ∧ Q (.bl (if neg then !ds.any (fun e => eqD e d) else ds.any fun e => eqD e d)) H
theorem op_notInD (hu : X.A.units + 64 < cLine) : OpR X (compareOp .NotIn) (rInD X.K true) := by
  intro pins s σ H x y v u Q I rx ry h
  obtain ⟨d, p, xs, ds, hd, rfl, hq, hr, hz, q⟩ := h
  cases ry
  obtain ⟨its, rv, t, _⟩ := I.list hq
  refine notIn_listAt (fun u => eqD (absD X.K H u) d) t.isList (fun z hz' => ?_) ?_
  · obtain ⟨e, w', a, b, c⟩ := mem_rep hr rv z (by simpa using hz')
    have := eqAtD I e d X.A.in1 w' x z v a hd b rx (by rw [in1_units]; omega)
    rw [absD_eq I b a]
    exact this
  · refine ⟨.bl _, H, I, rfl, ?_⟩
    have e := any_vals (d := d) (absD X.K H) hr rv fun d v u a b => absD_eq I b a
    have e2 : (its.toArray.any fun u => eqD (absD X.K H u) d) = ds.any fun e => eqD e d := by rw [← e]; simp
    rw [e2]; exact q
end
end L3

/-! [e for x in xs], [e for x in xs if c]: the block runs in a context of its own; no exception leaves it. -/
namespace L3
open PySem PySem.Spec PyProof.Rows L2
def blk (X : Cx) (scope : Scope) (cl : List (Str × Addr)) (N' : List Str) (C : Addr) (s₀ : Shared) (H₀ : Hp) (ex : List Addr) (pn : List (Addr × Obj)) : Cx where
  prog := X.prog
  w := X.w
  K := X.K
  mg := X.mg
  base := X.base
  A := X.A
  N := N'
  s₀ := s₀
  H₀ := H₀
  env := compEnvC scope cl C X.env
  outer := X.stack
  stack := X.stack
  ex := ex
  fn := fun _ => false
  calm := X.calm
  pn := pn
  xe := fun _ _ => False
abbrev lobj (its : List Value) : Obj := { cls := .type "list", data := .seq its.toArray its.length }
theorem toE {α : Type} {t : Sem α} {Q : α → Shared → Prop} {M : Model} {A : Around} {E : Value → Shared → Prop} {s : Shared} (h : wpAny M A t Q (fun _ _ => False) s) : wpAny M A t Q E s := wpAny_mono h (fun _ _ q => q) fun _ _ f => f.elim
section
variable {X : Cx} {pins : List (Addr × Obj)} {σ : L2.St} {H : Hp} {s : Shared}
def PF (X : Cx) (ifs : List Expr) (t : TT) : Prop := ∀ (pins : List (Addr × Obj)) (s : Shared) (σ : L2.St) (H : Hp) (Q : Bool → Hp → Prop), Inv X pins σ H s → t σ H Q →
  wpAny (model X.prog X.w) X.A (forIn ifs true fun c r => if r = true then do let ok ← isTrue c X.env (eval c X.env); pure (ForInStep.yield ok) else pure (ForInStep.yield r)) (TP X pins σ Q) X.xe s
theorem pf_one {c : Expr} {t : TT} (h : PT X c t) : PF X [c] t := fun pins s σ H Q I hq => wpAny_tests_one (h pins s σ H Q I hq)

theorem Inv.track {D : Addr} {ys : List V} {its : List Value} (I : Inv X pins σ H s) (hD : H D = none) (ho : s.heap.get? D = some (lobj its)) (hv : Vals ys its) (hz : ys.length ≤ sizeLine)
    (h1 : D ∈ X.ex ∨ X.s₀.heap.objs.size ≤ D) (h2 : D ≠ X.env.locals) (h3 : ∀ x c, X.env.cells.lookup x = some c → c ≠ D) (h4 : ∀ p ∈ X.pn ++ pins, p.1 ≠ D) : Inv X pins σ (upd H D (.lst ys)) s := by
  have old : ∀ b u, H b = some u → upd H D (.lst ys) b = some u := fun b u e => by rw [upd_ne (ne_of_none e hD)]; exact e
  refine I.step (g' := s.gens) (t' := s.toks) (d' := s.drawn) (h' := s.heap) (ch := [D]) (fun b hb => ?_) (fun b o _ _ _ e _ => e) (fun b o _ _ _ e _ => ⟨o.slots, e⟩) (fun b o hb _ n => ?_) (fun b o _ e => ⟨o, e⟩)
    (fun b xs e => old b _ e) (fun b o u e => old b _ e) (fun b ps e => ⟨#[], by rw [old b _ e]; simp⟩) (fun m hm => hm) (fun b u e => ?_) I.bare
  · have e : b = D := by simpa using hb
    subst e
    exact ⟨h1, h2, h3, h4⟩
  · rw [upd_ne (by simpa using hb)]; exact n
  · by_cases hb : b = D
    · subst hb
      rw [upd_same] at e; cases e
      exact ⟨hz, its, its.length, hv, ho⟩
    · rw [upd_ne hb] at e
      exact (I.hok b u e).stay (fun c v _ q => q) (fun c q => old c _ q) fun c xs q => old c _ q

def lend (js : List (Option Nat)) (σ : L2.St) : L2.St := js.map fun o => o.bind fun j => (σ[j]?).join
structure Blk (X : Cx) (scope : Scope) (cl : List (Str × Addr)) (N' : List Str) (js : List (Option Nat)) : Prop where
  clos : closureFor scope X.env = pure cl
  nocell : ∀ y ∈ scope.names, y.2 ≠ .cell
  kind : scope.kind = .function
  names : ∀ y ∈ scope.names, y.2 = .local → scope.names.lookup y.1 = some .local
  sub : ∀ y c, cl.lookup y = some c → X.env.cells.lookup y = some c
  has : ∀ y, ((relabel scope X.env).names.lookup y = some .cell ∨ (relabel scope X.env).names.lookup y = some .free) → ∃ c, cl.lookup y = some c
  len : js.length = N'.length
  lent : ∀ (i : Nat) y j, N'[i]? = some y → js[i]? = some (some j) → X.N[j]? = some y ∧ Vis X.env.scope y ∧ X.env.scope.names.lookup y ≠ some .local ∧ (relabel scope X.env).names.lookup y ≠ some .local

theorem blk_inv {scope : Scope} {cl : List (Str × Addr)} {N' : List Str} {js : List (Option Nat)} {fp : List Addr} {C : Addr} {h1 : Heap} {m : Str → Option Value} {tk : Nat} (B : Blk X scope cl N' js) (I : Inv X pins σ H s) (f : ∀ b ∈ fp, FpOk X pins H b)
    (fo : ∀ b ∈ fp, ∃ o, s.heap.get? b = some o) (old : ∀ b o, s.heap.get? b = some o → h1.get? b = some o) (hns : h1.Ns C m) (hC : s.heap.objs.size ≤ C) :
    Inv (blk X scope cl N' C s H fp (X.pn ++ pins)) [] (lend js σ) H { s with heap := h1, toks := tk } := by
  have ltC : ∀ b o, s.heap.get? b = some o → b ≠ C := fun b o e => Nat.ne_of_lt (Nat.lt_of_lt_of_le (Heap.lt_size e) hC)
  refine ⟨⟨I.ok.mod, B.kind, I.ok.glob, I.ok.blt, hC, fun y z c e1 e2 => I.ok.inj y z c (B.sub y c e1) (B.sub z c e2), fun y hy => B.has y hy, (fun y c e => nomatch e), I.ok.hd, I.ok.frames, .inl rfl, fun b hb => ?_, I.bs, ?_, fun b o e hb => ?_, fun b hb hs => ?_, I.stack, I.stkFree⟩,
    rfl, I.bare, Un.kept old, ⟨m, hns, fun i y v e1 e2 e3 => ?_⟩, fun y c e => ?_, I.hok.fresh hC, fun y c e => I.freeC y c (B.sub y c e), fun p hp => ?_, I.hok.kept old, ?_⟩
  · obtain ⟨o, e⟩ := fo b hb
    exact ⟨ltC b o e, fun y c q => (f b hb).2.2.2.2.1 y c (B.sub y c q)⟩
  · exact Nat.le_trans I.ok.bsz I.sz
  · rcases (f b hb).2.2.2.1 with z | z
    · exact I.ok.noex b o e z
    · exact absurd (Nat.lt_of_lt_of_le (Heap.lt_size (I.ok.bs b o e).1) z) (Nat.lt_irrefl _)
  · rcases List.mem_cons.mp (I.stkSub b hs) with z | z
    · exact (f b hb).2.1 z
    · exact (f b hb).2.2.1 z
  · have e2' : (lend js σ)[i]? = some (some v) := e2
    unfold lend at e2'
    rw [List.getElem?_map] at e2'
    cases ej : js[i]? with
    | none => rw [ej] at e2'; cases e2'
    | some o =>
      rw [ej] at e2'
      cases o with
      | none => cases e2'
      | some j =>
        obtain ⟨n1, n2, n3, n4⟩ := B.lent i y j e1 ej
        have es : σ[j]? = some (some v) := by
          cases q : σ[j]? with
          | none => rw [show (some (some j)).map _ = _ from rfl] at e2'; simp [q] at e2'
          | some z => simp [q] at e2'; rw [e2']
        obtain ⟨m0, hn0, hl0⟩ := I.loc
        obtain ⟨u, r, l⟩ := hl0 j y v n1 es n2
        refine ⟨u, r, ?_⟩
        rcases l with ⟨k, _⟩ | ⟨k, c, ec, z⟩
        · exact absurd k n3
        · have k' : (relabel scope X.env).names.lookup y = some .cell ∨ (relabel scope X.env).names.lookup y = some .free := by
            rcases e3 with q | q
            · exact absurd q n4
            · exact q
          obtain ⟨c', ec'⟩ := B.has y k'
          have := B.sub y c' ec'
          rw [ec] at this; cases this
          obtain ⟨oc, hoc, hd⟩ := z
          exact .inr ⟨k', c, ec', oc, old _ _ hoc, hd⟩
  · obtain ⟨v, oc, hoc, hd⟩ := I.cell y c (B.sub y c e)
    exact ⟨v, oc, old _ _ hoc, hd⟩
  · have hp' : p ∈ X.pn ++ pins := by simpa [blk] using hp
    obtain ⟨e, n, ne, nf, d⟩ := I.pin p hp'
    refine ⟨old _ _ e, n, ltC _ _ e, fun hs => ?_, d⟩
    rcases List.mem_cons.mp (I.stkSub p.1 hs) with z | z
    · exact ne z
    · exact nf z
  · show (lend js σ).length = N'.length
    unfold lend
    rw [List.length_map, B.len]

theorem codeAny_compLoop_any {prog : Program} {w : World} {A : Around} {R : Result → Shared → Prop} {s : Shared} {elt target iter : Expr} {ifs : List Expr} {scope : Scope} {pos : Pos} {it acc : Value} {env : Env} (I : Nat → Shared → Prop)
    (turn : ∀ n s, I n s → wpAny (model prog w) A (pyNext it) (fun r s₁ => match r with
      | none => R (.ok .next) s₁
      | some v => wpAny (model prog w) A (letOwnedTupleGo target it v) (fun _ s₁' => wpAny (model prog w) A (assign target env v) (fun _ s₂ =>
          wpAny (model prog w) A (forIn ifs true fun c r => if r = true then do let ok ← isTrue c env (eval c env); pure (ForInStep.yield ok) else pure (ForInStep.yield r)) (fun ok s₃ =>
            if ok = true then wpAny (model prog w) A (eval elt env) (fun x s₄ =>
              wpAny (model prog w) A (call (.builtin "list.append") [acc, x]) (fun _ s₅ => ∃ m, m < n ∧ I m s₅) (fun _ _ => False) s₄) (fun _ _ => False) s₃
            else ∃ m, m < n ∧ I m s₃) (fun _ _ => False) s₂) (fun _ _ => False) s₁') (fun _ _ => False) s₁) (fun _ _ => False) s)
    (n : Nat) (h : I n s) :
    codeAny (model prog w) A (.compLoop (.ListComp elt [⟨target, iter, ifs, 0⟩] scope pos) 0 it acc env) R s := by
  refine codeAny_loop rfl I (fun n s hI => ?_) n h
  show wpAny _ A ((compTurn (.ListComp elt [⟨target, iter, ifs, 0⟩] scope pos) 0 it acc env).onRaise (fun x => do noteFrame x env; theTreesLotGoes x)) _ _ s
  refine wpAny_noted ?_
  rw [compTurn_list]
  refine wpAny_bind (wpAny_standAt (wpAny_bind (wpAny_mono (turn n s hI) (fun r s₁ h₁ => ?_) fun _ _ f => f.elim)))
  cases r with
  | none => exact wpAny_pure h₁
  | some v =>
    refine wpAny_bind (wpAny_mono h₁ (fun _ s₁' h₁' => ?_) fun _ _ f => f.elim)
    refine wpAny_bind (wpAny_mono h₁' (fun _ s₂ h₂ => wpAny_bind (wpAny_mono h₂ (fun ok s₃ h₃ => ?_) fun _ _ f => f.elim)) fun _ _ f => f.elim)
    cases ok with
    | false => exact wpAny_pure ⟨rfl, h₃⟩
    | true =>
      exact wpAny_bind (wpAny_bind (wpAny_mono h₃ (fun x s₄ h₄ => wpAny_bind (wpAny_mono h₄ (fun _ s₅ h₅ => wpAny_pure (wpAny_pure ⟨rfl, h₅⟩)) fun _ _ f => f.elim)) fun _ _ f => f.elim))

def CompGo (J : It) (g : TG) (tf : TT) (te : TE) (Q : VK) (τ0 : L2.St) (H1 : Hp) : Prop := ∃ W : Nat → Nat → List V → L2.St → Hp → Prop, (∃ m, W 0 m [] τ0 H1) ∧ ∀ i m ys τ H, W i m ys τ H →
  (J.stop i H ∧ ∀ p, H p = none → Q (.ref p) (upd H p (.lst ys))) ∨ (J.go i H ∧ ∃ Nx : List V → L2.St → Hp → Prop, (∀ ys' τ' H', Nx ys' τ' H' → ∃ m', m' < m ∧ W (i + 1) m' ys' τ' H') ∧
    ∀ v H', J.yld i H v H' → g v τ H' fun τ2 H2 => tf τ2 H2 fun b H3 => if b = true then te τ2 H3 fun y H4 => ys.length < sizeLine ∧ Nx (ys ++ [y]) τ2 H4 else Nx ys τ2 H3)
def tComp (js : List (Option Nat)) (wi : TI) (g : TG) (tf : TT) (te : TE) : TE := fun σ H Q => wi σ H fun J H1 => CompGo J g tf te Q (lend js σ) H1
theorem comp_core {elt iter tg : Expr} {ifs : List Expr} {scope : Scope} {pos : Pos} {cl : List (Str × Addr)} {N' : List Str} {js : List (Option Nat)} {g : TG} {tf : TT} {te : TE} {RR : Value → Addr → Result → Shared → Prop} {Qv : VK} {E : Value → Shared → Prop} {it : Addr} {fp : List Addr} {tn : Nat → Heap → Prop} {J : It} {H2 : Hp} {s2 : Shared}
    (hc : X.calm = true) (B : Blk X scope cl N' js) (hg : ∀ C s₀ H₀ ex pn, PG (blk X scope cl N' C s₀ H₀ ex pn) tg g) (hf : ∀ C s₀ H₀ ex pn, PF (blk X scope cl N' C s₀ H₀ ex pn) ifs tf) (he : ∀ C s₀ H₀ ex pn, PE (blk X scope cl N' C s₀ H₀ ex pn) elt te)
    (I2 : Inv X pins σ H2 s2) (T : Turn X.prog X.w X.K tg J fp it tn) (st2 : tn 0 s2.heap) (f2 : ∀ b ∈ fp, FpOk X pins H2 b) (cg : CompGo J g tf te Qv (lend js σ) H2)
    (fin : ∀ (Dd Cc : Addr) (m : Str → Option Value) (s4 : Shared) (Hx : Hp), Inv X pins σ Hx s4 → Qv (.ref Dd) Hx → s4.heap.Ns Cc m → Hx Cc = none → Cc ≠ X.env.locals → X.s₀.heap.objs.size ≤ Cc → (∀ x c, X.env.cells.lookup x = some c → c ≠ Cc) → (∀ p ∈ X.pn ++ pins, p.1 ≠ Cc) →
      RR (.ref Dd) Cc (.ok .next) s4) :
    wpAny (model X.prog X.w) X.A (newList []) (fun acc s₃ => wpAny (model X.prog X.w) X.A (newFunctionEnv scope X.env.globals cl [] X.env.qual none .none (some X.env)) (fun cenv s₄ =>
      codeAny (model X.prog X.w) X.A (.compStart (.ListComp elt [⟨tg, iter, ifs, 0⟩] scope pos) 0 (.ref it) acc { cenv with scope := relabel scope X.env }) (RR acc cenv.locals) s₄) E s₃) E s2 := by
  obtain ⟨W, ⟨m0, w0⟩, turn⟩ := cg
  refine wpAny_newObj_type (wpAny_newFunctionEnv B.nocell (by intro y hy; simp at hy) (fun h₁ hns₁ hsb₁ => ?_) B.kind)
  dsimp only at hns₁ hsb₁ ⊢
  generalize hG : s2.heap.push { cls := .type "list", dict := none, data := .seq ([] : List Value).toArray } = G at hns₁ hsb₁ ⊢
  have hC : G.objs.size = s2.heap.objs.size + 1 := by rw [← hG, Heap.size_push]
  have hDC : s2.heap.objs.size ≠ G.objs.size := by rw [hC]; exact Nat.ne_of_lt (Nat.lt_succ_self _)
  have below : ∀ b, b < s2.heap.objs.size → b ≠ G.objs.size ∧ b ≠ s2.heap.objs.size := fun b hb => ⟨by rw [hC]; exact Nat.ne_of_lt (Nat.lt_succ_of_lt hb), Nat.ne_of_lt hb⟩
  have old : ∀ b o, s2.heap.get? b = some o → h₁.get? b = some o := fun b o e => hsb₁.extBut b o (below b (Heap.lt_size e)).1 (Heap.get?_push_of_some _ (hG ▸ Heap.get?_push_of_some _ e))
  have hacc : h₁.get? s2.heap.objs.size = some (lobj []) := hsb₁.extBut _ _ hDC (Heap.get?_push_of_some _ (hG ▸ Heap.get?_push_size _ rfl))
  have fo : ∀ b ∈ fp, ∃ o, s2.heap.get? b = some o := fun b hb => let ⟨o, e, _⟩ := T.obj 0 _ st2 b hb; ⟨o, e⟩
  have I4 := blk_inv (tk := s2.toks + ([] : List (Str × Value)).length) B I2 f2 fo old hns₁ (by rw [hC]; exact Nat.le_succ _)
  generalize hD : s2.heap.objs.size = Dd at *
  generalize hCC : G.objs.size = Cc at *
  have st4 : tn 0 h₁ := T.keep 0 _ _ st2 fun b _ o e => old b o e
  have fpne : ∀ b ∈ fp, b ≠ Dd := fun b hb => let ⟨o, e⟩ := fo b hb; by rw [← hD]; exact Nat.ne_of_lt (Heap.lt_size e)
  have hDfree : H2 Dd = none := I2.hok.fresh (by rw [hD]; exact Nat.le_refl _)
  have hDfs : Dd ∉ frs X.stack := fun hb => by
    rcases List.mem_cons.mp (I2.stkSub _ hb) with z | z
    · have := I2.lt; rw [← z, hD] at this; exact Nat.lt_irrefl _ this
    · exact I2.nofs (a := Dd) (by rw [hD]; exact Nat.le_refl _) z
  have hDcell : ∀ x c, X.env.cells.lookup x = some c → c ≠ Dd := fun x c e z => by
    obtain ⟨v, q⟩ := I2.cell x c e
    have := q.lt
    rw [z, ← hD] at this; exact Nat.lt_irrefl _ this
  have hDpin : ∀ p ∈ X.pn ++ pins, p.1 ≠ Dd := fun p hp z => by
    have := Heap.lt_size (I2.pin p hp).1
    rw [z, ← hD] at this; exact Nat.lt_irrefl _ this
  -- the block's context
  generalize hXb : blk X scope cl N' Cc s2 H2 fp (X.pn ++ pins) = Xb at I4
  have xP : Xb.prog = X.prog := by rw [← hXb]; rfl
  have xW : Xb.w = X.w := by rw [← hXb]; rfl
  have xK : Xb.K = X.K := by rw [← hXb]; rfl
  have xA : Xb.A = X.A := by rw [← hXb]; rfl
  have xC : Xb.calm = true := by rw [← hXb]; exact hc
  have xL : Xb.env.locals = Cc := by rw [← hXb]; rfl
  have xFs : Xb.fs = frs X.stack := by rw [← hXb]; rfl
  have xEx : Xb.ex = fp := by rw [← hXb]; rfl
  have xPn : Xb.pn = X.pn ++ pins := by rw [← hXb]; rfl
  have xS : Xb.s₀ = s2 := by rw [← hXb]; rfl
  have xH : Xb.H₀ = H2 := by rw [← hXb]; rfl
  have xCl : ∀ y c, Xb.env.cells.lookup y = some c → X.env.cells.lookup y = some c := by rw [← hXb]; exact B.sub
  have xE : Xb.env = compEnvC scope cl Cc X.env := by rw [← hXb]; rfl
  have xX : Xb.xe = fun _ _ => False := by rw [← hXb]; rfl
  have hg' : PG Xb tg g := by rw [← hXb]; exact hg _ _ _ _ _
  have hf' : PF Xb ifs tf := by rw [← hXb]; exact hf _ _ _ _ _
  have he' : PE Xb elt te := by rw [← hXb]; exact he _ _ _ _ _
  have fok : ∀ {H' : Hp} {o : Obj}, (∀ b ∈ fp, H' b = none) → ∀ b ∈ fp, FpOk Xb [(Dd, o)] H' b := fun {H' o} hn b hb => by
    obtain ⟨o', e'⟩ := fo b hb
    refine ⟨hn b hb, ?_, ?_, .inl (by rw [xEx]; exact hb), fun y c q => (f2 b hb).2.2.2.2.1 y c (xCl y c q), fun p hp => ?_⟩
    · rw [xL]; exact (below b (by have := Heap.lt_size e'; rw [hD] at this; exact this)).1
    · rw [xFs]
      intro hs
      rcases List.mem_cons.mp (I2.stkSub b hs) with z | z
      · exact (f2 b hb).2.1 z
      · exact (f2 b hb).2.2.1 z
    · rw [xPn] at hp
      rcases List.mem_append.mp hp with z | z
      · exact (f2 b hb).2.2.2.2.2 p z
      · rw [List.mem_singleton.mp z]; exact (fpne b hb).symm
  have hDC' : Dd ≠ Cc := by rw [← hD, ← hCC]; rw [← hCC, ← hD] at hDC; exact hDC
  have loop : codeAny (model X.prog X.w) X.A (.compLoop (.ListComp elt [⟨tg, iter, ifs, 0⟩] scope pos) 0 (.ref it) (.ref Dd) (compEnvC scope cl Cc X.env)) (RR (.ref Dd) Cc)
      { s2 with heap := h₁, toks := s2.toks + ([] : List (Str × Value)).length } := by
    refine codeAny_compLoop_any (fun n s' => ∃ i ys τ H' its, Inv Xb [(Dd, lobj its)] τ H' s' ∧ tn i s'.heap ∧ (∀ b ∈ fp, H' b = none) ∧ Vals ys its ∧ ys.length ≤ sizeLine ∧ W i n ys τ H') ?_ m0
      ⟨0, [], _, H2, [], I4.pins_of (fun p hp => ?_), st4, fun b hb => (f2 b hb).1, .nil, Nat.zero_le _, w0⟩
    · rintro n s3 ⟨i, ys, τ, H3, its, I3, st3, fr3, hv, hz, w3⟩
      have pD := I3.pin (Dd, lobj its) (List.mem_append_right _ (List.mem_singleton.mpr rfl))
      rcases turn i n ys τ H3 w3 with ⟨stop, qn⟩ | ⟨go, Nx, hN, step⟩
      · have hd := T.done Xb xP xW xK xC i [(Dd, lobj its)] s3 τ H3 (fun _ _ => False) I3 (fok fr3) st3 stop
        rw [xA] at hd
        refine thn hd fun r s4 ⟨hr, I5⟩ => ?_
        subst hr
        obtain ⟨m, hn, _⟩ := id I5.loc
        rw [xL] at hn
        have pD5 := I5.pin (Dd, lobj its) (List.mem_append_right _ (List.mem_singleton.mpr rfl))
        have ub := I5.base
        rw [xFs, xEx, xS, xH] at ub
        have hfC : H3 Cc = none := by have := I5.free; rw [xL] at this; exact this
        have ok5 : HOk X.prog X.w H3 s4.heap := by have := I5.hok; rw [xP, xW] at this; exact this
        have IX : Inv X pins σ H3 s4 := I2.call' (s' := s4) (by rw [I5.os, xS]) ub ok5 I5.bare fun b hb => ⟨(f2 b hb).2.2.2.1, (f2 b hb).2.1, (f2 b hb).2.2.2.2.1, (f2 b hb).2.2.2.2.2⟩
        have hlo : X.s₀.heap.objs.size ≤ Dd := by rw [← hD]; exact I2.sz
        have hloL : Dd ≠ X.env.locals := fun z => by have := I2.lt; rw [← z, hD] at this; exact Nat.lt_irrefl _ this
        have hCD : Dd ≤ Cc := by omega
        refine fin Dd Cc m s4 (upd H3 Dd (.lst ys)) (L3.Inv.track IX pD5.2.1 pD5.1 hv hz (.inr hlo) hloL hDcell hDpin) (qn Dd pD5.2.1) hn (by rw [upd_ne hDC'.symm]; exact hfC) ?_ (Nat.le_trans hlo hCD) ?_ ?_
        · intro z; have := I2.lt; rw [← z, hD] at this; exact Nat.lt_irrefl _ (Nat.lt_of_lt_of_le this hCD)
        · intro x c e z
          obtain ⟨v, q⟩ := I2.cell x c e
          have := q.lt
          rw [z, hD] at this; exact Nat.lt_irrefl _ (Nat.lt_of_lt_of_le this hCD)
        · intro p hp z
          have := Heap.lt_size (I2.pin p hp).1
          rw [z, hD] at this; exact Nat.lt_irrefl _ (Nat.lt_of_lt_of_le this hCD)
      · have hit := T.item Xb xP xW xK xC i [(Dd, lobj its)] s3 τ H3 (fun _ _ => False) I3 (fok fr3) st3 go
        rw [xA] at hit
        refine thn hit fun r s4 ⟨u, hr, h4⟩ => ?_
        subst hr
        refine thn h4 fun _ s5 ⟨x, H5, I5, r5, y5, st5, fr5⟩ => ?_
        have I5' := I5.pinned (fok fr5) (T.obj _ _ st5)
        have ga := hg' _ s5 τ H5 x u _ I5' r5 (step x H5 y5)
        rw [xP, xW, xA, xE, xX] at ga
        refine thn ga fun _ s6 ⟨τ6, H6, I6, q6⟩ => ?_
        have fa := hf' _ s6 τ6 H6 _ I6 q6
        rw [xP, xW, xA, xE, xX] at fa
        refine thn fa fun ok s7 ⟨H7, I7, q7⟩ => ?_
        have back : ∀ {τ8 : L2.St} {H8 : Hp} {s8 : Shared}, Inv Xb ([(Dd, lobj its)] ++ pinsAt fp s5.heap) τ8 H8 s8 → tn (i + 1) s8.heap ∧ (∀ b ∈ fp, H8 b = none) := fun {τ8 H8 s8} I8 =>
          ⟨T.keep _ _ _ st5 fun b hb o e => (I8.pin (b, o) (List.mem_append_right _ (List.mem_append_right _ (mem_pinsAt hb e)))).1, fun b hb => by
            obtain ⟨o, e, d⟩ := T.obj _ _ st5 b hb
            exact (I8.pin (b, o) (List.mem_append_right _ (List.mem_append_right _ (mem_pinsAt hb e)))).2.1⟩
        cases ok with
        | false =>
          rw [if_neg (by simp)] at q7 ⊢
          obtain ⟨m', hm, w7⟩ := hN _ _ _ q7
          obtain ⟨b1, b2⟩ := back I7
          exact ⟨m', hm, i + 1, ys, τ6, H7, its, I7.unpinned, b1, b2, hv, hz, w7⟩
        | true =>
          rw [if_pos rfl] at q7 ⊢
          have ea := he' _ s7 τ6 H7 _ I7 q7
          rw [xP, xW, xA, xE, xX] at ea
          refine thn ea fun yv s8 ⟨y, H8, I8, r8, hlt, n8⟩ => ?_
          have pD8 := I8.pin (Dd, lobj its) (List.mem_append_right _ (List.mem_append_left _ (List.mem_singleton.mpr rfl)))
          have hil : its.length = ys.length := hv.length.symm
          refine append_at (hsz := by rw [List.size_toArray]; omega) pD8.1 fun h' hs' ho' => ?_
          obtain ⟨m', hm, w8⟩ := hN _ _ _ n8
          obtain ⟨b1, b2⟩ := back I8
          have J1 : Inv Xb [] τ6 H8 s8 := I8.pins_of (fun p hp => nomatch hp)
          have J2 : Inv Xb [] τ6 H8 { s8 with heap := h' } := J1.turned (t' := s8.toks) (it := Dd) (fun b o hb e => (hs'.2 b hb).trans e) pD8.2.1 pD8.2.2.1 (.inr (by rw [xS, hD]; exact Nat.le_refl _)) (fun y c q => hDcell y c (xCl y c q)) fun p hp => by
            rw [xPn, List.append_nil] at hp
            exact hDpin p hp
          refine ⟨m', hm, i + 1, ys ++ [y], τ6, H8, its ++ [yv], J2.pins_of fun p hp => ?_, T.keep _ _ _ b1 fun b hb o e => (hs'.2 b (fpne b hb)).trans e, b2, hv.append (.cons r8 .nil), by rw [List.length_append, List.length_singleton]; omega, w8⟩
          rw [List.mem_singleton.mp hp]
          refine ⟨?_, pD8.2.1, pD8.2.2.1, pD8.2.2.2.1, fun v z => nomatch z⟩
          show h'.get? Dd = some (lobj (its ++ [yv]))
          rw [ho']
          show some ({ cls := .type "list", data := .seq (its.toArray.push yv) (its.length + 1) } : Obj) = some { cls := .type "list", data := .seq (its ++ [yv]).toArray (its ++ [yv]).length }
          rw [List.length_append, List.length_singleton, List.push_toArray]
    · rw [List.mem_singleton.mp hp]
      refine ⟨hacc, hDfree, ?_, ?_, fun v z => nomatch z⟩
      · rw [xL]; rw [← hCC, ← hD]; rw [← hCC, ← hD] at hDC; exact hDC
      · rw [xFs]; exact hDfs
  exact codeAny_compStart_list loop (T.self X.A 0 _ _ _ st4 loop)

theorem pe_comp {elt iter tg : Expr} {ifs : List Expr} {scope : Scope} {pos : Pos} {cl : List (Str × Addr)} {N' : List Str} {js : List (Option Nat)} {wi : TI} {g : TG} {tf : TT} {te : TE} (hc : X.calm = true) (B : Blk X scope cl N' js) (hi : PI X tg iter wi)
    (hg : ∀ C s₀ H₀ ex pn, PG (blk X scope cl N' C s₀ H₀ ex pn) tg g) (hf : ∀ C s₀ H₀ ex pn, PF (blk X scope cl N' C s₀ H₀ ex pn) ifs tf) (he : ∀ C s₀ H₀ ex pn, PE (blk X scope cl N' C s₀ H₀ ex pn) elt te)
    (hs : ∀ x, foldedSetIterable iter X.env x = pure x := by intro _; rfl) : PE X (.ListComp elt [⟨tg, iter, ifs, 0⟩] scope pos) (tComp js wi g tf te) := by
  intro pins s σ H Q I h
  rw [eval_ListComp]
  refine wpAny_comprehension_free (use := none) rfl hs B.clos B.kind B.names (thn (hi pins s σ H _ I h) fun xv s1 h1 => thn h1 fun itv s2 h2 => ?_)
  obtain ⟨it, fp, tn, J, H2, e, I2, T, st2, f2, cg⟩ := h2
  subst e
  refine comp_core (RR := fun acc C => compPost (model X.prog X.w) X.A X.xe none (EP X pins σ Q) acc C) hc B hg hf he I2 T st2 f2 cg ?_
  intro Dd Cc m s4 Hx IX q hn hC cL cS cC cP
  refine ⟨m, hn, fun h' hs' => ⟨.ref Dd, Hx, ?_, rfl, q⟩⟩
  exact IX.turned (t' := s4.toks) (it := Cc) (fun b o hb e => (hs'.2 b hb).trans e) hC cL (.inr cS) cC cP
end
/-! ### a block from checks -/
def capt (env : Env) : List (Str × NameKind) → List (Str × Addr) → List (Str × Addr)
  | [], acc => acc
  | (n, k) :: r, acc => capt env r (if k == .free then (match env.cells.lookup n with | some c => (n, c) :: acc | none => acc) else acc)
theorem lookup_cons' {n y : Str} {c : Addr} {acc : List (Str × Addr)} : ((n, c) :: acc).lookup y = if y == n then some c else acc.lookup y := by
  rw [List.lookup_cons]; cases y == n <;> rfl
theorem capt_sub {env : Env} : ∀ (names : List (Str × NameKind)) (acc : List (Str × Addr)), (∀ y c, acc.lookup y = some c → env.cells.lookup y = some c) → ∀ y c, (capt env names acc).lookup y = some c → env.cells.lookup y = some c
  | [], acc, h, y, c, e => h y c e
  | (n, k) :: r, acc, h, y, c, e => by
    unfold capt at e
    refine capt_sub r _ (fun y c q => ?_) y c e
    split at q
    · split at q
      · rename_i c' hc
        rw [lookup_cons'] at q
        split at q
        · rename_i hy
          cases q
          rw [eq_of_beq hy]; exact hc
        · exact h y c q
      · exact h y c q
    · exact h y c q
theorem capt_keep {env : Env} {y : Str} : ∀ (names : List (Str × NameKind)) (acc : List (Str × Addr)), (∃ c, acc.lookup y = some c) → ∃ c, (capt env names acc).lookup y = some c
  | [], acc, h => h
  | (n, k) :: r, acc, h => by
    unfold capt
    refine capt_keep r _ ?_
    split
    · split
      · rw [lookup_cons']
        split
        · exact ⟨_, rfl⟩
        · exact h
      · exact h
    · exact h
theorem capt_has {env : Env} {y : Str} (hy : (env.cells.lookup y).isSome = true) : ∀ (names : List (Str × NameKind)) (acc : List (Str × Addr)), (y, NameKind.free) ∈ names → ∃ c, (capt env names acc).lookup y = some c
  | (n, k) :: r, acc, h => by
    unfold capt
    rcases List.mem_cons.mp h with z | z
    · cases z
      refine capt_keep r _ ?_
      obtain ⟨c, hc⟩ := Option.isSome_iff_exists.mp hy
      rw [if_pos (by rfl), hc]
      exact ⟨c, by rw [lookup_cons', if_pos (beq_self_eq_true y)]⟩
    · exact capt_has hy r _ z
theorem relabel_free {scope : Scope} {env : Env} {y : Str} (h0 : ∀ z ∈ scope.names, z.2 ≠ .cell) (h : (relabel scope env).names.lookup y = some .cell ∨ (relabel scope env).names.lookup y = some .free) : (y, NameKind.free) ∈ scope.names := by
  have mem : ∃ k, (k = NameKind.cell ∨ k = NameKind.free) ∧ (y, k) ∈ (relabel scope env).names := by
    rcases h with h | h
    · exact ⟨_, .inl rfl, PySem.mem_of_lookup h⟩
    · exact ⟨_, .inr rfl, PySem.mem_of_lookup h⟩
  obtain ⟨k, hk, hm⟩ := mem
  unfold relabel at hm
  obtain ⟨⟨n, k'⟩, hm', e⟩ := List.mem_map.mp hm
  simp only at e
  split at e
  · rename_i hc
    cases e
    have : k' = .free := by
      simp only [Bool.and_eq_true, beq_iff_eq] at hc
      exact hc.1.1
    rw [← this]; exact hm'
  · cases e
    rcases hk with rfl | rfl
    · exact absurd rfl (h0 _ hm')
    · exact hm'
def chkFree (scope : Scope) (env : Env) : Bool := scope.names.all fun y => y.2 != .free || (env.cells.lookup y.1).isSome
def chkLent (X : Cx) (scope : Scope) : List Str → List (Option Nat) → Bool
  | [], [] => true
  | y :: N, o :: js => (match o with
    | none => true
    | some j => X.N[j]? == some y && (X.env.scope.names.lookup y == some .cell || X.env.scope.names.lookup y == some .free) && (relabel scope X.env).names.lookup y != some .local) && chkLent X scope N js
  | _, _ => false
theorem chkLent_at {X : Cx} {scope : Scope} : ∀ {N : List Str} {js : List (Option Nat)}, chkLent X scope N js = true → js.length = N.length ∧ ∀ (i : Nat) y j, N[i]? = some y → js[i]? = some (some j) → X.N[j]? = some y ∧ Vis X.env.scope y ∧ X.env.scope.names.lookup y ≠ some .local ∧ (relabel scope X.env).names.lookup y ≠ some .local
  | [], [], _ => ⟨rfl, fun i y j h => by simp at h⟩
  | [], _ :: _, h => by simp [chkLent] at h
  | _ :: _, [], h => by simp [chkLent] at h
  | z :: N, o :: js, h => by
    unfold chkLent at h
    rw [Bool.and_eq_true] at h
    obtain ⟨l, t⟩ := chkLent_at h.2
    refine ⟨by rw [List.length_cons, List.length_cons, l], fun i y j h1 h2 => ?_⟩
    cases i with
    | zero =>
      simp at h1 h2
      subst h1 h2
      have h' := h.1
      simp only [Bool.and_eq_true, Bool.or_eq_true, beq_iff_eq, bne_iff_ne] at h'
      refine ⟨h'.1.1, ?_, ?_, h'.2⟩
      · rcases h'.1.2 with q | q
        · exact .inr (.inl q)
        · exact .inr (.inr q)
      · rcases h'.1.2 with q | q <;> rw [q] <;> decide
    | succ i => exact t i y j (by simpa using h1) (by simpa using h2)
theorem blk_mk {X : Cx} {scope : Scope} {N' : List Str} {js : List (Option Nat)} (clos : closureFor scope X.env = pure (capt X.env scope.names [])) (nocell : ∀ y ∈ scope.names, y.2 ≠ .cell) (kind : scope.kind = .function)
    (names : ∀ y ∈ scope.names, y.2 = .local → scope.names.lookup y.1 = some .local) (free : chkFree scope X.env = true) (lent : chkLent X scope N' js = true) : Blk X scope (capt X.env scope.names []) N' js where
  clos := clos
  nocell := nocell
  kind := kind
  names := names
  sub := capt_sub _ _ fun y c e => nomatch e
  has := fun y h => by
    have hm := relabel_free nocell h
    have hf := List.all_eq_true.mp free _ hm
    exact capt_has (by simpa using hf) _ _ hm
  len := (chkLent_at lent).1
  lent := (chkLent_at lent).2
theorem comp_list {K : PySem.W.Frag} {a : Addr} {xs : List V} {g : TG} {tf : TT} {te : TE} {τ : L2.St} {H : Hp} {Q : VK} (Pv : Nat → List V → L2.St → Hp → Prop) (h0 : Pv 0 [] τ H) (hl : ∀ i ys τ H, Pv i ys τ H → SqL K H a xs)
    (hs : ∀ i x ys τ H, xs[i]? = some x → Pv i ys τ H → g x τ H fun τ2 H2 => tf τ2 H2 fun b H3 => if b = true then te τ2 H3 fun y H4 => ys.length < sizeLine ∧ Pv (i + 1) (ys ++ [y]) τ2 H4 else Pv (i + 1) ys τ2 H3)
    (hd : ∀ ys τ H, Pv xs.length ys τ H → ∀ p, H p = none → Q (.ref p) (upd H p (.lst ys))) :
    CompGo (Itl K a) g tf te Q τ H := by
  refine ⟨fun i m ys τ H => m = xs.length - i ∧ i ≤ xs.length ∧ Pv i ys τ H, ⟨xs.length, by simp, Nat.zero_le _, h0⟩, ?_⟩
  rintro i m ys τ H ⟨rfl, hi, p⟩
  have q := hl i ys τ H p
  by_cases hlt : i < xs.length
  · refine .inr ⟨⟨xs, xs[i], q, by simp [hlt]⟩, Pv (i + 1), fun ys' τ' H' p' => ⟨xs.length - (i + 1), by omega, rfl, hlt, p'⟩, fun x H' y => ?_⟩
    obtain ⟨e, y⟩ := y
    subst e
    exact hs i x ys τ _ (y xs q) p
  · have e : i = xs.length := by omega
    subst e
    exact .inl ⟨⟨xs, q, Nat.le_refl _⟩, hd ys τ H p⟩
end L3

/-! min and max of a list of texts. -/
namespace L3
open PySem PySem.Spec PyProof.Rows L2
section
variable {prog : Program} {w : World} {A : Around} {E : Value → Shared → Prop} {s : Shared} {l : Addr} {xs : Array Value}
end
section
variable {X : Cx}
end
end L3

/-! xs[::-1] of a list. -/
namespace L3
open PySem PySem.Spec PyProof.Rows L2
section
variable {X : Cx} {e st : Expr} {te ts : TE} {pos p2 : Pos}
end
end L3

/-! The table of a set: where a hash is looked for, and that the first free place is found. -/
namespace ST
open PySem PySem.SetTable
def it : Nat → Nat → Nat
  | 0, x => x
  | n + 1, x => it n (5 * x + 1)
/-! ### the places that are looked at -/
def adv (mask : Nat) (p : Probe) : Probe :=
  if p.more > 0 then { p with j := p.j + 1, more := p.more - 1 } else
  { p with j := (leap mask p.i p.perturb).1, more := runEnd mask (leap mask p.i p.perturb).1 - (leap mask p.i p.perturb).1, i := (leap mask p.i p.perturb).1, perturb := (leap mask p.i p.perturb).2 }
def blockAt (mask i perturb : Nat) : Probe := { j := i, more := runEnd mask i - i, i, perturb, dummy := none }
def st (mask : Nat) (h : Int) : Probe := blockAt mask (bits h % (mask + 1)) (bits h)
def itr (mask : Nat) : Nat → Probe → Probe
  | 0, p => p
  | n + 1, p => itr mask n (adv mask p)
def pos (mask : Nat) (h : Int) (n : Nat) : Nat := (itr mask n (st mask h)).j
def bk (mask : Nat) : Nat → Nat × Nat → Nat × Nat
  | 0, x => x
  | m + 1, x => bk mask m (leap mask x.1 x.2)
end ST

namespace ST
open PySem PySem.SetTable
/-! ### one more -/
end ST

namespace ST
open PySem PySem.SetTable
/-! ### all laid anew -/
end ST

namespace ST
open PySem PySem.SetTable
end ST

/-! A set of tuples: what an addition does. -/
namespace PySem
section
variable {prog : Program} {w : World} {K : Type} [DecidableEq K] (knd : KeyKind prog w K)
variable {knd} {A : Around} {E : Value → Shared → Prop} {s : Shared}
end
end PySem

namespace PySem
section
variable {prog : Program} {w : World} {K : Type} [DecidableEq K] {knd : KeyKind prog w K} {A : Around} {E : Value → Shared → Prop} {s : Shared}
open ST in
end
end PySem

namespace PySem
section
variable {prog : Program} {w : World} {K : Type} [DecidableEq K] {knd : KeyKind prog w K} {A : Around} {E : Value → Shared → Prop} {s : Shared}
open ST in
end
end PySem

/-! set(xs): the new set, filled one by one. -/
namespace PySem
section
variable {prog : Program} {w : World} {A : Around} {E : Value → Shared → Prop} {s : Shared}
end
end PySem

namespace PySem
section
variable {prog : Program} {w : World} {B : Around} {E : Value → Shared → Prop} {s : Shared}
end
end PySem

namespace L3
open PySem PySem.Spec PyProof.Rows L2
def ndist {κ : Type} [DecidableEq κ] : List κ → Nat
  | [] => 0
  | x :: xs => if x ∈ xs then ndist xs else ndist xs + 1
section
variable {X : Cx}
end
end L3

namespace L3
open PySem PySem.Spec PyProof.Rows L2
section
variable {X : Cx}
end
end L3

/-! Marks, steps, scribes in the heap; what stays while lists change. -/
namespace L3
open PySem PySem.Spec PyProof.Rows L2
abbrev Mk := Int × Str
abbrev Stp := Int × Str × Str × Int
def Grow (H H' : Hp) : Prop := ∀ b o, H b = some o → (∀ xs, o ≠ .lst xs) → H' b = some o
theorem Same.grow {H H' : Hp} (g : Same H H') : Grow H H' := fun b o h _ => g b o h
theorem grow_upd {H : Hp} {p : Addr} {xs : List V} (h : H p = some (.lst xs)) (o : HO) : Grow H (upd H p o) := fun b u q n => by
  rw [upd_ne]
  · exact q
  · rintro rfl; rw [h] at q; cases q; exact n xs rfl
theorem Grow.seqT {K : PySem.W.Frag} {H H' : Hp} {a : Addr} {xs : List V} (e : Grow H H') (h : SqT K H a xs) : SqT K H' a xs := by
  rcases h with (h | ⟨o, h⟩) | h
  · exact .inl (.inl (e _ _ h (by intro _ q; cases q)))
  · exact .inl (.inr ⟨o, e _ _ h (by intro _ q; cases q)⟩)
  · exact .inr h
def MkV (K : PySem.W.Frag) (H : Hp) (m : Mk) (v : V) : Prop := ∃ b, v = .ref b ∧ SqT K H b [.int m.1, .str m.2]
def StV (K : PySem.W.Frag) (H : Hp) (t : Stp) (v : V) : Prop := ∃ b, v = .ref b ∧ SqT K H b [.int t.1, .str t.2.1, .str t.2.2.1, .int t.2.2.2]
theorem MkV.mono {K : PySem.W.Frag} {H H' : Hp} {m : Mk} {v : V} (g : Grow H H') : MkV K H m v → MkV K H' m v := fun ⟨b, e, h⟩ => ⟨b, e, g.seqT h⟩
theorem StV.mono {K : PySem.W.Frag} {H H' : Hp} {m : Stp} {v : V} (g : Grow H H') : StV K H m v → StV K H' m v := fun ⟨b, e, h⟩ => ⟨b, e, g.seqT h⟩
theorem paired_mono {α β : Type} {F G : α → β → Prop} (h : ∀ a b, F a b → G a b) : ∀ {xs : List α} {ys : List β}, Paired F xs ys → Paired G xs ys
  | _, _, .nil => .nil
  | _, _, .cons p q => .cons (h _ _ p) (paired_mono h q)
theorem paired_append {α β : Type} {F : α → β → Prop} : ∀ {xs xs' : List α} {ys ys' : List β}, Paired F xs ys → Paired F xs' ys' → Paired F (xs ++ xs') (ys ++ ys')
  | _, _, _, _, .nil, q => q
  | _, _, _, _, .cons p r, q => .cons p (paired_append r q)
structure Scr where
  signs : Str
  rooms : Int
  begins : List Mk
  steps : List Stp
  ends : List Mk
def ScV (K : PySem.W.Frag) (H : Hp) (s : Scr) (v : V) (pb ps pe : Addr) : Prop := ∃ a xb xs xe, v = .ref a ∧ SqT K H a [.str s.signs, .int s.rooms, .ref pb, .ref ps, .ref pe] ∧ SqL K H pb xb ∧ SqL K H ps xs ∧ SqL K H pe xe ∧
  Paired (MkV K H) s.begins xb ∧ Paired (StV K H) s.steps xs ∧ Paired (MkV K H) s.ends xe
theorem ScV.mono {K : PySem.W.Frag} {H H' : Hp} {s : Scr} {v : V} {pb ps pe : Addr} (g : Same H H') : ScV K H s v pb ps pe → ScV K H' s v pb ps pe
  | ⟨a, xb, xs, xe, e, h1, h2, h3, h4, h5, h6, h7⟩ => ⟨a, xb, xs, xe, e, Same.seqT g h1, g.seq h2, g.seq h3, g.seq h4, paired_mono (fun _ _ => MkV.mono (Same.grow g)) h5, paired_mono (fun _ _ => StV.mono (Same.grow g)) h6, paired_mono (fun _ _ => MkV.mono (Same.grow g)) h7⟩
/-! as deep data -/
def dMk (m : Mk) : D := .tup [.int m.1, .str m.2]
def dSt (t : Stp) : D := .tup [.int t.1, .str t.2.1, .str t.2.2.1, .int t.2.2.2]
def dScr (s : Scr) : D := .tup [.str s.signs, .int s.rooms, .lst (s.begins.map dMk), .lst (s.steps.map dSt), .lst (s.ends.map dMk)]
theorem rep_int {K : PySem.W.Frag} {H : Hp} (i : Int) : Rep K H (.int i) (.int i) := by unfold Rep; rfl
theorem rep_str {K : PySem.W.Frag} {H : Hp} (x : Str) : Rep K H (.str x) (.str x) := by unfold Rep; rfl
theorem rep_tup {K : PySem.W.Frag} {H : Hp} {a : Addr} {xs : List V} {ds : List D} (h : SqT K H a xs) (r : Reps K H ds xs) : Rep K H (.tup ds) (.ref a) := by unfold Rep; exact ⟨a, xs, rfl, h, r⟩
theorem rep_lst {K : PySem.W.Frag} {H : Hp} {a : Addr} {xs : List V} {ds : List D} (h : SqL K H a xs) (r : Reps K H ds xs) : Rep K H (.lst ds) (.ref a) := by unfold Rep; exact ⟨a, xs, rfl, h, r⟩
theorem MkV.rep {K : PySem.W.Frag} {H : Hp} {m : Mk} {v : V} : MkV K H m v → Rep K H (dMk m) v
  | ⟨_, e, h⟩ => by subst e; exact rep_tup h (.cons (rep_int _) (.cons (rep_str _) .nil))
theorem StV.rep {K : PySem.W.Frag} {H : Hp} {m : Stp} {v : V} : StV K H m v → Rep K H (dSt m) v
  | ⟨_, e, h⟩ => by subst e; exact rep_tup h (.cons (rep_int _) (.cons (rep_str _) (.cons (rep_str _) (.cons (rep_int _) .nil))))
theorem reps_of {K : PySem.W.Frag} {H : Hp} {α : Type} {F : α → V → Prop} {f : α → D} (h : ∀ a v, F a v → Rep K H (f a) v) : ∀ {xs : List α} {vs : List V}, Paired F xs vs → Reps K H (xs.map f) vs
  | _, _, .nil => .nil
  | _, _, .cons p q => .cons (h _ _ p) (reps_of h q)
theorem ScV.rep {K : PySem.W.Frag} {H : Hp} {s : Scr} {v : V} {pb ps pe : Addr} : ScV K H s v pb ps pe → Rep K H (dScr s) v
  | ⟨a, xb, xs, xe, e, h1, h2, h3, h4, h5, h6, h7⟩ => by
    subst e
    exact rep_tup h1 (.cons (rep_str _) (.cons (rep_int _) (.cons (rep_lst h2 (reps_of (f := dMk) (F := MkV K H) (fun _ _ h => MkV.rep h) h5)) (.cons (rep_lst h3 (reps_of (f := dSt) (F := StV K H) (fun _ _ h => StV.rep h) h6)) (.cons (rep_lst h4 (reps_of (f := dMk) (F := MkV K H) (fun _ _ h => MkV.rep h) h7)) .nil)))))
theorem deeps_map {α : Type} (f : α → D) (n : Nat) (h : ∀ a, deep (f a) ≤ n) : ∀ xs : List α, deeps (xs.map f) ≤ n
  | [] => by rw [List.map_nil, deeps]; exact Nat.zero_le _
  | x :: xs => by
    have h1 := h x
    have h2 := deeps_map f n h xs
    rw [List.map_cons, deeps]; omega
theorem deep_dMk (m : Mk) : deep (dMk m) ≤ 1 := by unfold dMk; simp [deep, deeps]
theorem deep_dSt (m : Stp) : deep (dSt m) ≤ 1 := by unfold dSt; simp [deep, deeps]
theorem deep_dScr (s : Scr) : deep (dScr s) ≤ 3 := by
  have h1 := deeps_map dMk 1 deep_dMk s.begins
  have h2 := deeps_map dSt 1 deep_dSt s.steps
  have h3 := deeps_map dMk 1 deep_dMk s.ends
  unfold dScr
  simp only [deep, deeps]
  omega
theorem eqD_dMk (a b : Mk) : eqD (dMk a) (dMk b) = decide (a = b) := by
  obtain ⟨i, x⟩ := a; obtain ⟨j, y⟩ := b
  unfold dMk
  simp only [eqD, eqDs, Bool.and_true]
  by_cases h1 : i = j <;> by_cases h2 : x = y <;> simp [h1, h2]
theorem eqD_dSt (a b : Stp) : eqD (dSt a) (dSt b) = decide (a = b) := by
  obtain ⟨i, x, z, k⟩ := a; obtain ⟨j, y, u, l⟩ := b
  unfold dSt
  simp only [eqD, eqDs, Bool.and_true]
  by_cases h1 : i = j <;> by_cases h2 : x = y <;> by_cases h3 : z = u <;> by_cases h4 : k = l <;> simp [h1, h2, h3, h4]
theorem any_mem {α : Type} [DecidableEq α] (f : α → D) (h : ∀ a b, eqD (f a) (f b) = decide (a = b)) (x : α) : ∀ xs : List α, ((xs.map f).any fun e => eqD e (f x)) = decide (x ∈ xs)
  | [] => by simp
  | y :: ys => by
    rw [List.map_cons, List.any_cons, any_mem f h x ys, h]
    by_cases c : y = x
    · simp [c]
    · simp [c, show ¬ x = y from fun q => c q.symm]
/-! ### the list's insert; a number of the module -/
section
variable {X : Cx}
theorem pe_globI {x : Str} {i : Int} {pos : Pos} (hg : Gl X x) (hm : ∃ t, X.mg x = some (.int i t)) (hd : (x == ("__debug__" : Str)) = false := by decide) : PE X (.Name x pos) (tC (.int i)) := by
  obtain ⟨t, hm⟩ := hm
  exact pe_glob hg hm ⟨t, rfl⟩ hd
end
/-! in a block: the fragment named outright -/
theorem kIx {X : Cx} {K : PySem.W.Frag} (r : PySem.W.Frag → R2) (h : IxR X (r X.K)) (e : X.K = K := by rfl) : IxR X (r K) := e ▸ h
theorem kOp {X : Cx} {K : PySem.W.Frag} {f : Value → Value → Sem Value} (r : PySem.W.Frag → R2) (h : OpR X f (r X.K)) (e : X.K = K := by rfl) : OpR X f (r K) := e ▸ h
def rLenS (K : PySem.W.Frag) : List V → Hp → VK → Prop := fun xs H Q => ∃ p ys, xs = [.ref p] ∧ (SqL K H p ys ∨ SqT K H p ys) ∧ Q (.int ys.length) H
theorem kLen {X : Cx} {K : PySem.W.Frag} (e : X.K = K := by rfl) : CallR X (.builtin "len") (rLenS K) := e ▸ call_len_seq
end L3

/-! Exceptions of own classes: raised, passing frames. -/
namespace L3
open PySem PySem.Spec PyProof.Rows L2
theorem ObjOk.there {P : Program} {w : World} {H : Hp} {h : Heap} : ∀ {a : Addr} {o : HO}, ObjOk P w H h a o → ∃ ob, h.get? a = some ob
  | _, .lst _, x => let ⟨_, _, _, _, e⟩ := x; ⟨_, e⟩
  | _, .tup _, x => let ⟨_, _, _, o, e, _⟩ := x; ⟨o, e⟩
  | _, .dK _, x => let ⟨_, _, _, _, o, _, _, e, _⟩ := x; ⟨o, e⟩
  | _, .dT _, x => let ⟨_, _, _, _, o, _, _, e, _⟩ := x; ⟨o, e⟩
  | _, .set _ _, x => let ⟨o, _, _, _, e, _⟩ := x; ⟨o, e⟩
  | _, .ins _ _ _, x => let ⟨_, _, _, e, _⟩ := x; ⟨_, e⟩
  | _, .own _, x => x
  | _, .xd _, x => let ⟨_, ⟨o, _, _, e, _⟩, _⟩ := x; ⟨o, e⟩
  | _, .met _ _, x => ⟨_, x⟩
  | _, .rng _ _, x => let ⟨_, _, _, e⟩ := x; ⟨_, e⟩
  | _, .frz o _, x => ⟨o, x.1⟩
  | _, .tbl _, x => ⟨_, x⟩
  | _, .ext _, x => x.2.1
structure Fly (P : Program) (w : World) (st : List Env) (H : Hp) (s : Shared) (x C : Addr) (H' : Hp) (s' : Shared) (B : Heap) : Prop where
  os : s'.os = s.os
  bare : AllBare s'.gens
  un : Un (frs st) [] H H' s.heap s'.heap
  hok : HOk P w H' s'.heap
  fl : ∃ t, Heap.FlyingW B st x (.ref C) (.ref t) s'.heap
  new : s.heap.get? x = none
  xf : H' x = none
  tr : ∀ b o, H' b ≠ none → s'.heap.get? b = some o → B.get? b = some o
  ol : ∀ b o, s.heap.get? b = some o → H b = none → b ∉ frs st → B.get? b = some o
  th : ∀ b o, s.heap.get? b = some o → b ∉ frs st → ∃ o', B.get? b = some o'
  ff : ∀ b ∈ frs st, H' b = none
def CX1 (P : Program) (w : World) : CXT := fun st H s E e s' => ∃ x C H' B, e = .ref x ∧ Fly P w st H s x C H' s' B ∧ E (.ref C) none H'
section
variable {P : Program} {w : World} {st : List Env} {H H' : Hp} {s s' : Shared} {x C : Addr} {B : Heap}
theorem Fly.turn (F : Fly P w st H s x C H' s' B) {h2 : Heap} (k : B.StaysIn h2) (u : s'.heap.UpToSlots h2) : Un (frs st) [] H H' s.heap h2 ∧ HOk P w H' h2 := by
  have slot : ∀ b ∈ frs st, ∀ o, s'.heap.get? b = some o → ∃ sl, h2.get? b = some { o with slots := sl } := fun b hb o q => by
    obtain ⟨t, fl⟩ := F.fl
    obtain ⟨_, o', e, d⟩ := fl.2.2.1.mem hb
    rw [q] at e; cases e
    exact u b o q d
  refine ⟨⟨fun b o q n hb _ => k b o (F.ol b o q n hb), fun b o q n hb hx => ?_, F.un.free, fun b o q hx => ?_, F.un.tups, F.un.frzs, F.un.tbls⟩, fun a o e => ?_⟩
  · obtain ⟨sl, e⟩ := F.un.slot b o q n hb hx
    obtain ⟨sl', e'⟩ := slot b hb _ e
    exact ⟨sl', e'⟩
  · by_cases hb : b ∈ frs st
    · obtain ⟨o', e⟩ := F.un.there b o q hx
      obtain ⟨sl, e'⟩ := slot b hb _ e
      exact ⟨_, e'⟩
    · obtain ⟨o', e⟩ := F.th b o q hb
      exact ⟨o', k b o' e⟩
  · refine (F.hok a o e).stay (fun b v hb q => ?_) (fun _ q => q) fun _ _ q => q
    refine k b v (F.tr b v ?_ q)
    rcases hb with rfl | hb
    · rw [e]; simp
    · rw [hb]; simp
end
section
variable {X : Cx} {pins : List (Addr × Obj)} {σ : L2.St} {H : Hp} {s : Shared}
theorem raise_fly {M : Model} {h2 : Heap} {x C : Addr} {vs : List Value} {Q : Unit → Shared → Prop} {E : Value → Shared → Prop} (I : Inv X pins σ H s) (hst : X.stack = X.env :: X.outer) (hfm : X.env.frame = some X.env.locals) (hex : X.ex = []) (hx : Heap.MadeExcOf s.heap h2 x (.ref C) vs)
    (q : ∀ h' B, Fly X.prog X.w X.outer X.H₀ X.s₀ x C H { s with heap := h' } B → Q () { s with heap := h' }) : wpAny M X.A (leaving X.env (.ref x)) Q E { s with heap := h2 } := by
  have hfr : X.A.frames = some (X.env :: X.outer) := by rw [← hst]; exact I.ok.frames
  have hstk := I.stack
  have inB : ∀ b o, s.heap.get? b = some o → b ∉ frs X.stack → (PySem.W.hideAll s.heap (frs X.stack)).get? b = some o := fun b o e n => PySem.W.hideAll_get _ e n
  have nst : ∀ b o, X.s₀.heap.get? b = some o → b ∉ X.fs → b ∉ frs X.stack := fun b o e n hb => by
    rcases List.mem_cons.mp (I.stkSub b hb) with z | z
    · exact absurd (Nat.lt_of_lt_of_le (Heap.lt_size e) I.ok.above) (by rw [z]; exact Nat.lt_irrefl _)
    · exact n z
  have noex : ∀ b : Addr, b ∉ X.ex := fun b => by rw [hex]; simp
  have fsub : ∀ b ∈ X.fs, b ∈ frs X.stack := fun b hb => by
    rw [hst]; unfold frs; rw [List.filterMap_cons, hfm]; exact List.mem_cons_of_mem _ hb
  have hff := PySem.W.funFrames_hide (as := frs X.stack) hstk (fun env he a ha => List.mem_filterMap.mpr ⟨env, he, ha⟩)
  rw [hst] at hff
  refine wpAny_leaves_madeW (base := PySem.W.hideAll s.heap (frs (X.env :: X.outer))) (h := s.heap) (s := { s with heap := h2 }) (L := X.env.locals) hfr hfm (fun b o e => PySem.W.of_hideAll _ e) hff hx fun h' t f1 f2 f3 f4 => ?_
  rw [← hst] at f1 f3
  have keepB : ∀ b o, s.heap.get? b = some o → b ∉ frs X.stack → h'.get? b = some o := fun b o e n => f1.1 b o (inB b o e n)
  have slot : ∀ b ∈ frs X.stack, ∀ o, s.heap.get? b = some o → ∃ sl, h'.get? b = some { o with slots := sl } := fun b hb o e => by
    obtain ⟨_, o', e', d⟩ := hstk.mem hb
    rw [e] at e'; cases e'
    exact f4 b o (hx.keeps b o e) d
  have xnew : X.s₀.heap.get? x = none := by
    cases e : X.s₀.heap.get? x with
    | none => rfl
    | some o =>
      obtain ⟨o', e'⟩ := I.base.there x o e (noex x)
      rw [hx.new] at e'; cases e'
  refine q h' _ ⟨I.os, I.bare, ⟨fun b o e n hb _ => ?_, fun b o e n hb _ => ?_, fun b o e n _ => I.base.free b o e n (noex b), fun b o e _ => ?_, I.base.tups, I.base.frzs, I.base.tbls⟩, fun a u e => ?_, ⟨t, f1⟩, xnew, ?_, fun b o hb e => ?_, fun b o e n hb => ?_, fun b o e hb => ?_, fun b hb => ?_⟩
  · exact keepB b o (I.base.keep b o e n hb (noex b)) (nst b o e hb)
  · obtain ⟨sl, e1⟩ := I.base.slot b o e n hb (noex b)
    obtain ⟨sl', e2⟩ := slot b (fsub b hb) _ e1
    exact ⟨sl', e2⟩
  · obtain ⟨o', e1⟩ := I.base.there b o e (noex b)
    by_cases hb : b ∈ frs X.stack
    · obtain ⟨sl, e2⟩ := slot b hb _ e1
      exact ⟨_, e2⟩
    · exact ⟨o', keepB b o' e1 hb⟩
  · refine (I.hok a u e).stay (fun b v hb q => keepB b v q fun z => ?_) (fun _ q => q) fun _ _ q => q
    have := I.stkFree b z
    rcases hb with rfl | hb
    · rw [e] at this; cases this
    · rw [hb] at this; cases this
  · cases e : H x with
    | none => rfl
    | some u =>
      obtain ⟨o, e'⟩ := ObjOk.there (I.hok x u e)
      rw [hx.new] at e'; cases e'
  · cases e' : H b with
    | none => exact absurd e' hb
    | some u =>
      obtain ⟨o1, e1⟩ := ObjOk.there (I.hok b u e')
      have nb : b ∉ frs X.stack := fun z => by have := I.stkFree b z; rw [e'] at this; cases this
      have e2 := keepB b o1 e1 nb
      have e3 : h'.get? b = some o := e
      rw [e3] at e2; cases e2
      exact inB b o e1 nb
  · exact inB b o (I.base.keep b o e n hb (noex b)) (nst b o e hb)
  · obtain ⟨o', e1⟩ := I.base.there b o e (noex b)
    exact ⟨o', inB b o' e1 (nst b o e hb)⟩
  · exact I.stkFree b (fsub b hb)
theorem pass_fly {M : Model} {s2 : Shared} {H2 : Hp} {x C : Addr} {B : Heap} {Q : Unit → Shared → Prop} {E : Value → Shared → Prop} (I : Inv X pins σ H s) (hst : X.stack = X.env :: X.outer) (hfm : X.env.frame = some X.env.locals) (hex : X.ex = []) (F : Fly X.prog X.w X.stack H s x C H2 s2 B)
    (q : ∀ h', Fly X.prog X.w X.outer X.H₀ X.s₀ x C H2 { s2 with heap := h' } B → Q () { s2 with heap := h' }) : wpAny M X.A (leaving X.env (.ref x)) Q E s2 := by
  have hfr : X.A.frames = some (X.env :: X.outer) := by rw [← hst]; exact I.ok.frames
  obtain ⟨t, fl⟩ := F.fl
  have nst : ∀ b o, X.s₀.heap.get? b = some o → b ∉ X.fs → b ∉ frs X.stack := fun b o e n hb => by
    rcases List.mem_cons.mp (I.stkSub b hb) with z | z
    · exact absurd (Nat.lt_of_lt_of_le (Heap.lt_size e) I.ok.above) (by rw [z]; exact Nat.lt_irrefl _)
    · exact n z
  have noex : ∀ b : Addr, b ∉ X.ex := fun b => by rw [hex]; simp
  have fsub : ∀ b ∈ X.fs, b ∈ frs X.stack := fun b hb => by
    rw [hst]; unfold frs; rw [List.filterMap_cons, hfm]; exact List.mem_cons_of_mem _ hb
  have fl' := fl
  rw [hst] at fl'
  refine wpAny_leaves_onW hfr hfm fl' fun h' f1 f2 => ?_
  obtain ⟨un, hok⟩ := F.turn f1.1 f2
  have xnew : X.s₀.heap.get? x = none := by
    cases e : X.s₀.heap.get? x with
    | none => rfl
    | some o =>
      obtain ⟨o', e'⟩ := I.base.there x o e (noex x)
      rw [F.new] at e'; cases e'
  refine q h' ⟨?_, F.bare, ⟨fun b o e n hb _ => ?_, fun b o e n hb _ => ?_, fun b o e n _ => ?_, fun b o e _ => ?_, fun b xs e => un.tups b xs (I.base.tups b xs e), fun b o u e => un.frzs b o u (I.base.frzs b o u e), fun b ps e => ?_⟩, hok, ⟨t, f1⟩, xnew, F.xf, fun b o hb e => ?_, fun b o e n hb => ?_, fun b o e hb => ?_, fun b hb => F.ff b (fsub b hb)⟩
  · exact F.os.trans I.os
  · exact un.keep b o (I.base.keep b o e n hb (noex b)) (I.base.free b o e n (noex b)) (nst b o e hb) (by simp)
  · obtain ⟨sl, e1⟩ := I.base.slot b o e n hb (noex b)
    obtain ⟨sl', e2⟩ := un.slot b _ e1 (I.base.free b o e n (noex b)) (fsub b hb) (by simp)
    exact ⟨sl', e2⟩
  · obtain ⟨o', e1⟩ := I.base.there b o e (noex b)
    exact un.free b o' e1 (I.base.free b o e n (noex b)) (by simp)
  · obtain ⟨o', e1⟩ := I.base.there b o e (noex b)
    exact un.there b o' e1 (by simp)
  · obtain ⟨m1, e1⟩ := I.base.tbls b ps e
    obtain ⟨m2, e2⟩ := un.tbls b _ e1
    exact ⟨m1 ++ m2, by rw [e2, Array.append_assoc]⟩
  · cases e' : H2 b with
    | none => exact absurd e' hb
    | some u =>
      obtain ⟨o1, e1⟩ := ObjOk.there (F.hok b u e')
      have e2 := F.tr b o1 hb e1
      have e3 := f1.1 b o1 e2
      have e4 : h'.get? b = some o := e
      rw [e4] at e3; cases e3
      exact e2
  · exact F.ol b o (I.base.keep b o e n hb (noex b)) (I.base.free b o e n (noex b)) (nst b o e hb)
  · obtain ⟨o', e1⟩ := I.base.there b o e (noex b)
    exact F.th b o' e1 (nst b o e hb)
end
end L3

/-! An exception object of an own class: its class, isinstance; a clause that takes it. -/
namespace L3
open PySem PySem.Spec PyProof.Rows L2 PySem.W PySem.Builtin PySem.Builtin.ObjectAttr PySem.Builtin.Getset_descriptor PySem.Calls
def XAt (x C : Addr) : Heap → Prop := fun h => ∃ o, h.get? x = some o ∧ o.cls = .ref C
structure XCls (K : Frag) (C : Addr) : Prop where
  ga : findIn K (.ref C) "__getattribute__" = some (some (.builtin "BaseException.__getattribute__"))
  gh : findIn K (.ref C) "__getattr__" = some none
  bs : mroIn K C (.type "BaseException") = some true
  cl : (clsIn K C).isSome = true
  ha : findIn K (.ref C) "__class__" = some (some (.builtin "object.__class__"))
  hn : specialIn K (.builtin "object.__class__") "__get__" = some (some (.builtin "getset_descriptor.__get__"))
  htk : takesIn K (.builtin "object.__class__") = some true
  hm : mroIn K C (.type "object") = some true
section
variable {prog : Program} {w : World} {A : Around} {E : Value → Shared → Prop} {s : Shared} {K : Frag} {x C : Addr}
theorem x_type {M : Model} {h : Heap} (I : XAt x C h) : Looks M h (typeOf (.ref x)) (.ref C) := by
  obtain ⟨o, e, c⟩ := I
  exact c ▸ (Looks.ld e).andThen .now
theorem x_find {M : Model} {h : Heap} (X : K.In h) (c : XCls K C) : Looks M h (find (.ref x) (.ref C) "__class__") (.bind (.builtin "getset_descriptor.__get__") (.builtin "object.__class__")) := by
  have l1 := looks_findIn (M := M) X c.ha
  have l2 : Looks M h (getOf (some (.builtin "object.__class__"))) (some (.builtin "getset_descriptor.__get__")) := looks_specialIn X c.hn
  have l3 := looks_takesIn (M := M) X c.htk
  refine l1.andThen (l2.andThen ?_)
  exact (show Looks M h (dataDescriptor? (some (.builtin "object.__class__")) (some (.builtin "getset_descriptor.__get__"))) (some (.builtin "getset_descriptor.__get__", .builtin "object.__class__")) from l3.andThen .now).andThen (Looks.tag .now)
theorem x_get {R : Result → Shared → Prop} {tp : Value} (X : K.In s.heap) (I : XAt x C s.heap) (hm : mroIn K C (.type "object") = some true) (h : R (.ok (.ret (.ref C))) s) :
    codeAny (model prog w) A (.call (.builtin "getset_descriptor.__get__") ⟨[.builtin "object.__class__", .ref x, tp], []⟩) R s := by
  obtain ⟨h0, g0, d0, t0, os0⟩ := s
  have l0 := x_type (M := model prog w) I
  have l1 := looks_mroIn (M := model prog w) X hm
  refine codeAny_call_builtin KF.slot_gs.plain KF.entry_gs (KF.slot_gs.check _ _ _ _ _ _ _ _ KF.type_class (KF.args_gs _ _ _) ?_)
  unfold Builtin.«getset_descriptor.__get__» descrGet
  rw [dga_obj]
  refine wpAny_bind (wpAny_pure ?_)
  unfold descrGetter descrCheckInstance descrNameAndClass isInstance
  simp only [KF.owner_class]
  repeat lk
  refine ⟨Code.quiet_builtin _ (by decide +kernel), codeAny_builtin KF.entry_class ?_⟩
  unfold Builtin.«object.__class__» shownTypeOf
  repeat lk
  exact h
theorem bx_bind (v : Value) : bindSpecial (.builtin "BaseException.__getattribute__") v = pure (.builtin "BaseException.__getattribute__", [v]) := by kernel_rfl
theorem x_entry {tk : Tok} {R : Result → Shared → Prop} (X : K.In s.heap) (I : XAt x C s.heap) (c : XCls K C) (h : R (.ok (.ret (.ref C))) s) :
    codeAny (model prog w) A (.call (.builtin "BaseException.__getattribute__") ⟨[.ref x, .str "__class__" tk], []⟩) R s := by
  obtain ⟨h0, g0, d0, t0, os0⟩ := s
  have l0 := x_type (M := model prog w) I
  have l1 := x_find (M := model prog w) (x := x) X c
  have l2 := looks_mroIn (M := model prog w) X c.bs
  have hk : builtinKind "BaseException.__getattribute__" = some .slot := by decide +kernel
  have hsp : splitId "BaseException.__getattribute__" = some ("BaseException", "__getattribute__") := by decide +kernel
  have ha := F.args_bexc_ga (.ref x) (.str "__class__" tk)
  refine codeAny_call_builtin (by decide +kernel) F.entry_bexc_ga ?_
  simp only [checkBuiltinCall, hk, hsp]
  unfold isInstance
  repeat (first | refine wpAny_run (h := none) (x_get (A := A.in1) (s := ⟨h0, g0, d0, t0, os0⟩) X I c.hm ?_) | lk)
  exact h
theorem x_class {Q : Option Value → Shared → Prop} (X : K.In s.heap) (I : XAt x C s.heap) (c : XCls K C) (h : Q (some (.ref C)) { s with toks := s.toks + 1 }) : wpAny (model prog w) A (getAttr? (.ref x) "__class__") Q E s := by
  obtain ⟨h0, g0, d0, t0, os0⟩ := s
  have l0 := x_type (M := model prog w) I
  have l1 := looks_findIn (M := model prog w) X c.ga
  have l2 := looks_findIn (M := model prog w) X c.gh
  unfold getAttr? getAttrBy? getAttrBy
  refine wpAny_bind (wpAny_mkText (wpAny_bind (wpAny_attempt (wpAny_holding (wpAny_bind (l0.at (wpAny_bind (l1.at ?_))))))))
  show wpAny _ _ (getAttrByItsOwn _ _ _ _ _ _) _ _ _
  unfold getAttrByItsOwn hookBefore
  refine wpAny_bind (l2.at ?_)
  show wpAny _ _ (((holding [] (boundAndCalled _ _ _)).attempt) >>= _) _ _ _
  unfold boundAndCalled
  rw [bx_bind]
  refine wpAny_bind (wpAny_attempt (wpAny_holding (wpAny_bind (wpAny_pure ?_))))
  exact wpAny_call (x_entry (s := ⟨h0, g0, d0, t0 + 1, os0⟩) X I c (wpAny_pure (wpAny_pure h)))
theorem kitx_exc (c : XCls K C) : KitX K (.ref x) (.ref C) (XAt x C) where
  ty := fun _ _ _ I => x_type I
  it := fun _ _ X _ => by
    obtain ⟨cd, hc⟩ := Option.isSome_iff_exists.mp c.cl
    unfold clsIn at hc
    split at hc
    · rename_i ho
      intro A' Q' E' s' k q
      unfold isType loadHead
      exact wpAny_bind (wpAny_loadPart (k _ _ (X _ _ ho)) (wpAny_pure q))
    · cases hc
  ne := fun h tp dd its n sl X htp => by
    obtain ⟨cd, hc⟩ := Option.isSome_iff_exists.mp c.cl
    refine Bool.eq_false_iff.mpr fun q => ?_
    obtain rfl : C = tp := Value.ref.inj (beq_iff_eq.mp q)
    unfold clsIn at hc
    split at hc
    · rename_i ho
      cases (X _ _ ho).symm.trans htp
    · cases hc
  ca := fun X I k => x_class X I c k
theorem x_matches {S : Addr} {Q : Bool → Shared → Prop} (X : K.In s.heap) (I : XAt x C s.heap) (ht : typeIn K (.ref S) = some (.type "type")) (hcS : (clsIn K S).isSome = true) (hb : mroIn K S (.type "BaseException") = some true) (hs : mroIn K C (.ref S) = some true) (q : Q true s) :
    wpAny (model prog w) A (excMatches (.ref x) (.ref S)) Q E s := by
  obtain ⟨h0, g0, d0, t0, os0⟩ := s
  have l0 := x_type (M := model prog w) I
  have l1 := looks_typeIn (M := model prog w) X ht
  have l2 := looks_mroIn (M := model prog w) X hb
  have l3 := looks_mroIn (M := model prog w) X hs
  have l4 : Looks (model prog w) h0 (isType (.ref S)) true := by
    obtain ⟨cd, hc⟩ := Option.isSome_iff_exists.mp hcS
    unfold clsIn at hc
    split at hc
    · rename_i ho
      intro A' Q' E' s' k q
      unfold isType loadHead
      exact wpAny_bind (wpAny_loadPart (k _ _ (X _ _ ho)) (wpAny_pure q))
    · cases hc
  have l5 : Looks (model prog w) h0 (isSubtype (.type "type") (.type "tuple")) false := Looks.of_pure (by rw [isSubtype_type]; kernel_rfl)
  unfold excMatches isInstance isExcClass
  repeat lk
  exact q
end
end L3

/-! raise C(..), calls that may raise, try with one call, isinstance of what was caught. -/
namespace L3
open PySem PySem.Spec PyProof.Rows L2
abbrev bmV : List Value := [.type "ValueError", .type "Exception", .type "BaseException", .type "object"]
theorem own_obj {K : PySem.W.Frag} {h : Heap} {C : Addr} {bB : List Value} {nid : String} (X : K.In h) (e : PySem.W.excIn K C bB nid = true) :
    ∃ bm N nm q bs hd sn sub ab col dd k0 k1 k2 k3 k5 mN, h.get? C = some (excClassObj nm q C N bs bm hd sn sub ab col dd k0 k1 k2 k3 k5 nid) ∧ h.Ns N mN ∧ mN "__init__" = none ∧ OwnTail h bB bm := by
  unfold PySem.W.excIn at e
  split at e
  · rename_i dd cd slots hl
    split at e
    · rename_i C1 bm k0 k1 k2 k3 n1 k5 hmro hslots
      simp only [Bool.and_eq_true, beq_iff_eq, Bool.not_eq_true'] at e
      obtain ⟨⟨⟨⟨⟨e1, e2⟩, e3⟩, e4⟩, e5⟩, e6⟩ := e
      subst e1 e2
      obtain ⟨a1, a2, a3, a4, a5, a6, a7, a8, a9, a10, a11⟩ := cd
      dsimp only at hmro e3 e5 e6
      subst hmro e3
      have es : slots = #[k0, k1, k2, k3, some (.builtin n1), k5] := by
        obtain ⟨l⟩ := slots
        simp only at hslots
        rw [hslots]
      subst es
      exact ⟨bm, a4, a1, a5, a2, a6, a7, a8, a9, a10, dd, k0, k1, k2, k3, k5, _, X _ _ hl, .of_isNs (PySem.W.isNs_of_in X e5), PySem.W.nsMap_none_of_in X e5 e6, PySem.W.tail_of_in X e4⟩
    · cases e
  · cases e
structure OwnX (K : PySem.W.Frag) (mg : Str → Option Value) (x : Str) (C : Addr) : Prop where
  nm : mg x = some (.ref C)
  ex : PySem.W.excIn K C bmV "ValueError.__new__" = true
section
variable {X : Cx}
def Raises (X : Cx) (E : XK) : Prop := ∀ (pins : List (Addr × Obj)) (σ : L2.St) (H : Hp) (s : Shared) (h2 : Heap) (x C : Addr) (vs : List Value), Inv X pins σ H s → Heap.MadeExcOf s.heap h2 x (.ref C) vs → E (.ref C) none H → X.xe (.ref x) { s with heap := h2 }
def tRaise (C : Addr) (E : XK) (te : TE) : TS := fun _ σ H => te σ H fun v H1 => [v].length = 1 ∧ E (.ref C) none H1
theorem ps_raise {x : Str} {C : Addr} {E : XK} {e : Expr} {te : TE} {np cpos pos : Pos} (O : OwnX X.K X.mg x C) (hc : X.calm = true) (hg : Gl X x) (hR : Raises X E) (he : PE X e te) (hd : (x == ("__debug__" : Str)) = false := by decide)
    (hs : starEach [e] X.env = [(false, eval e X.env)] := by rfl) (hpl : (backTo cpos (starEach [e] X.env)).any (·.1) = false := by rfl) : PS X (.Raise (some (.Call (.Name x np) [e] [] cpos)) none pos) (tRaise C E te) := by
  intro pins s σ H D I h
  obtain ⟨bm, N, nm, q, bs, hdct, sn, sub, ab, col, dd, k0, k1, k2, k3, k5, mN, hC, hN, hni, T⟩ := own_obj (h := X.base) I.ok.mod.kin O.ex
  have FV := PySem.F.excBase_ValueError
  refine wpAny_Raise_call_subU (C := C) (nm := nm) (q := q) (N := N) (bs := bs) (bm := bm) (hdct := hdct) (sn := sn) (sub := sub) (ab := ab) (col := col) (dd := dd) (k0 := k0) (k1 := k1) (k2 := k2) (k3 := k3) (k5 := k5) (mN := mN)
    FV (by decide) FV (T.hasType FV.hasBase) (I.ok.hd hc) hpl hni (ld_glob I hg O.nm ⟨rfl, ?_⟩ hd)
  have pa : PA X [e] (tCons te tNil) := pa_cons he pa_nil hs
  rw [hs]
  refine Calls.evalArgs_plain ?_
  have run := pa cpos pins s σ H (fun ws H1 => ws.length = 1 ∧ E (.ref C) none H1) I h
  rw [hs] at run
  refine wpAny_mono run (fun vs s2 ⟨ws, H2, I2, rv, hw, hE⟩ => ?_) fun _ _ y => y
  have hl : vs.length ≤ sizeLine := by
    rw [← rv.length, hw]; decide
  exact ⟨rfl, hl, I2.bk _ _ hC, hN.keeps I2.bk, T.keeps I2.bk, fun h' x0 hm => hR pins σ H2 s2 h' x0 C vs I2 hm hE⟩
/-! ### an own def that may raise -/
def Cal1 (P : Program) (w : World) (K : PySem.W.Frag) (mg : Str → Option Value) (base : Heap) (x : Str) (ps : List Str) (k : Nat) (sp : Sp) : Prop :=
  ∃ f fd, FnOk P w K mg base (CX1 P w) k f fd ps sp ∧ Binds K fd ps [] ∧ PySem.W.keepIn K (.ref f) = true ∧ mg x = some (.ref f)
def tFn1 (sp : Sp) (E : XK) (t : TA) : TE := fun σ H Q => t σ H fun vs H1 => sp vs H1 Q E
theorem pe_fn1 {x : Str} {ps : List Str} {k k' : Nat} {sp : Sp} {E : XK} {p pos : Pos} {e : Expr} {es : List Expr} {t : TA} (C : Cal1 X.prog X.w X.K X.mg X.base x ps k sp) (hr : Room k' X.A) (hk : k ≤ k') (hg : Gl X x) (hx : Passes (CX1 X.prog X.w) X E)
    (ha : PA X (e :: es) t) (hdb : (x == ("__debug__" : Str)) = false := by decide) (he : starEach (e :: es) X.env = (false, eval e X.env) :: starEach es X.env := by rfl) (hpl : (backTo pos (starEach es X.env)).any (·.1) = false := by rfl) :
    PE X (.Call (.Name x p) (e :: es) [] pos) (tFn1 sp E t) := by
  obtain ⟨f, fd, F, b, kp, hm⟩ := C
  intro pins s σ H Q I h
  refine wpAny_Call_Name_kw (ld_glob I hg hm ?_ hdb)
  refine PySem.W.callWith_K (h₀ := X.base) I.ok.mod.kin kp (thn (ha pos pins s σ H _ I h) fun us s1 ⟨vs, H1, I1, r, q⟩ => ⟨I1.kIn, ?_⟩) he hpl
  exact run_fn (dvs := []) F (hr.mono hk) b .nil hx I1 r (by rw [List.append_nil]; exact q)
end
section
variable {P : Program} {w : World} {K : PySem.W.Frag} {mg : Str → Option Value} {base : Heap} {N : List Str} {qual : Str} {scope : Scope} {f : Addr} {cd : Value} {A : Around} {outer : List Env} {s : Shared} {H : Hp} {E : XK}
theorem pass_on : Passes (CX1 P w) (cxOf (CX1 P w) P w K mg base N qual scope f cd A outer s H E) E := by
  intro pins σ H1 s1 e s2 I h
  obtain ⟨x, C, H2, B, rfl, F, hE⟩ := h
  show wpAny (model P w) _ (leaving _ (.ref x)) _ _ s2
  exact pass_fly I rfl rfl rfl F fun h' F' => ⟨x, C, H2, B, rfl, F', hE⟩
theorem raise_on : Raises (cxOf (CX1 P w) P w K mg base N qual scope f cd A outer s H E) E := by
  intro pins σ H1 s1 h2 x C vs I hm hE
  show wpAny (model P w) _ (leaving _ (.ref x)) _ _ _
  exact raise_fly I rfl rfl rfl hm fun h' B F' => ⟨x, C, H1, B, rfl, F', hE⟩
theorem Fun.ok1 {x : Str} {st : Stmt} {fd : FuncData} {ps : List Str} {k : Nat} {sp : Sp} (F : Fun K x qual st f fd) (S : FnScope N ps (defScope st)) (len : ∀ vs H Q E, sp vs H Q E → vs.length = ps.length)
    (hbody : ∀ (cdv : Value) (A : Around) (outer : List Env) (s : Shared) (H : Hp) (vs : List V) (Q : VK) (E : XK), Room k (A.deeper (envOfC qual (defScope st) s.heap.objs.size f cdv)) → sp vs H Q E →
      ∃ t, PSs (cxOf (CX1 P w) P w K mg base N qual (defScope st) f cdv A outer s H E) (defBody st) t ∧ t { nx := fun _ H' => Q .non H', rt := Q } (start N vs) H) : FnOk P w K mg base (CX1 P w) (k + 1) f fd ps sp := by
  obtain ⟨oc, od, kV, doc, pm, an, cdv, ct, osl, rfl, lk, hcd⟩ := F.ex
  exact fn_of lk hcd S len fun A outer s H vs Q E hr hsp => hbody cdv A outer s H vs Q E hr hsp
end
/-! ### what was caught -/
def excIs (x C : Addr) : Heap → Prop := XAt x C
abbrev Exc (x C : Addr) : HO := .ext (excIs x C)
theorem exc_ok {P : Program} {w : World} {H : Hp} {h : Heap} {x C : Addr} (e : XAt x C h) : ObjOk P w H h x (Exc x C) :=
  ⟨e, let ⟨o, z, _⟩ := e; ⟨o, z⟩, fun h1 h2 ⟨o, z, c⟩ k => ⟨o, k o z, c⟩⟩
section
variable {X : Cx}
def clsV : V → Option Value
  | .ref a => some (.ref a)
  | .ty T => some (.type T)
  | _ => none
theorem call_isinstX : CallR X (.builtin "isinstance") (fun xs H Q => ∃ x C y u b, xs = [.ref x, y] ∧ H x = some (Exc x C) ∧ XCls X.K C ∧ clsV y = some u ∧ PySem.W.kitOne X.K (.ref C) u = some b ∧ Q (.bl b) H) := by
  intro pins s σ H xs us Q I r h
  obtain ⟨x, C, y, u, b, rfl, hx, c, hu, e, q⟩ := h
  obtain ⟨v, w', rfl, rx, ry⟩ := vals2 r
  cases rx
  have ew : w' = u := by
    cases y <;> simp only [clsV] at hu <;> first | cases hu | skip
    · cases ry; rfl
    · cases ry; rfl
  subst ew
  have px : XAt x C s.heap := (show ObjOk X.prog X.w H s.heap x (Exc x C) from I.hok x _ hx).1
  exact PySem.W.kia_one (kitx_exc c) I.kIn px e (fun z => nomatch z) fun tk => ⟨.bl b, H, I.tok _, rfl, q⟩
theorem pe_globC {x : Str} {C : Addr} {pos : Pos} (hg : Gl X x) (hm : X.mg x = some (.ref C)) (hd : (x == ("__debug__" : Str)) = false := by decide) : PE X (.Name x pos) (tC (.ref C)) := pe_glob hg hm rfl hd
end
end L3

/-! try: y = f(..) / except S as n: z = n -/
namespace L3
open PySem PySem.Spec PyProof.Rows L2
abbrev sui (X : Cx) (v : Value) : Cx := { X with A := X.A.mark (some v), calm := false, xe := fun _ _ => False }
section
variable {X : Cx} {pins : List (Addr × Obj)} {σ : L2.St} {H : Hp} {s : Shared}
theorem Inv.suite (I : Inv X pins σ H s) (v : Value) : Inv (sui X v) pins σ H s :=
  ⟨⟨I.ok.mod, I.ok.kind, I.ok.glob, I.ok.blt, I.ok.above, I.ok.inj, I.ok.has, I.ok.cab, (fun h => nomatch h), I.ok.frames, I.ok.stk, I.ok.exf, I.ok.bs, I.ok.bsz, I.ok.noex, I.ok.exfs, I.ok.funs, I.ok.frf⟩, I.os, I.bare, I.base, I.loc, I.cell, I.free, I.freeC, I.pin, I.hok, I.len⟩
theorem Inv.unsuite {v : Value} (ok : X.Ok) (I : Inv (sui X v) pins σ H s) : Inv X pins σ H s :=
  ⟨ok, I.os, I.bare, I.base, I.loc, I.cell, I.free, I.freeC, I.pin, I.hok, I.len⟩
theorem Inv.trackX {x C : Addr} (I : Inv X pins σ H s) (hx : H x = none) (c : XAt x C s.heap) (h0 : X.s₀.heap.get? x = none) (h1 : x ≠ X.env.locals) (h2 : ∀ y a, X.env.cells.lookup y = some a → a ≠ x) (h3 : ∀ p ∈ X.pn ++ pins, p.1 ≠ x) : Inv X pins σ (upd H x (Exc x C)) s := by
  have old : ∀ b u, H b = some u → upd H x (Exc x C) b = some u := fun b u e => by rw [upd_ne (ne_of_none e hx)]; exact e
  refine ⟨I.ok, I.os, I.bare, ⟨I.base.keep, I.base.slot, fun b o e n hb => ?_, I.base.there, fun b xs e => old b _ (I.base.tups b xs e), fun b o u e => old b _ (I.base.frzs b o u e), fun b ps e => ?_⟩, I.loc, I.cell, by rw [upd_ne h1.symm]; exact I.free, fun y a e => by rw [upd_ne (h2 y a e)]; exact I.freeC y a e, fun p hp => ?_, fun b u e => ?_, I.len⟩
  · rw [upd_ne (fun z => by subst z; rw [h0] at e; cases e)]
    exact I.base.free b o e n hb
  · obtain ⟨m, e1⟩ := I.base.tbls b ps e
    exact ⟨m, old b _ e1⟩
  · obtain ⟨a1, a2, a3⟩ := I.pin p hp
    exact ⟨a1, by rw [upd_ne (h3 p hp)]; exact a2, a3⟩
  · by_cases hb : b = x
    · subst hb
      rw [upd_same] at e; cases e
      exact exc_ok c
    · rw [upd_ne hb] at e
      exact (I.hok b u e).stay (fun _ _ _ q => q) (fun a q => old a _ q) fun a xs q => old a _ q
theorem goes_ok {M : Model} {A : Around} {E : Value → Shared → Prop} {i : Nat} {n : Str} {pos : Pos} {Q : Unit → Shared → Prop} (I : Inv X pins σ H s) (hN : X.N.Nodup) (hi : X.N[i]? = some n) (hk : X.env.scope.names.lookup n = some .local)
    (h : ∀ s', Inv X pins (σ.set i none) H s' → Q () s') : wpAny M A (do bindName X.env n .none; unbindBehindTheSuite X.env n pos) Q E s := by
  obtain ⟨m, hn, hl⟩ := id I.loc
  have hcls : (X.env.scope.kind == .class || (X.env.scope.kind == .module && X.env.locals != X.env.globals)) = false := by rw [I.ok.kind]; rfl
  have hiσ : i < σ.length := by rw [I.len]; exact (List.getElem?_eq_some_iff.mp hi).1
  have cne := I.cne
  obtain ⟨oL, _, _, hoL, _⟩ := id hn
  refine wpAny_nameGoes_keeps hk hn hcls fun h' v hn' hs => h _ ?_
  have bel : ∀ {b : Addr} {o : Obj}, X.s₀.heap.get? b = some o → b ≠ X.env.locals := fun e => Nat.ne_of_lt (Nat.lt_of_lt_of_le (Heap.lt_size e) I.ok.above)
  refine ⟨I.ok, I.os, I.bare, ⟨fun b o e n hb hx => (hs.2 b (bel e)).trans (I.base.keep b o e n hb hx), fun b o e n hb hx => ?_, I.base.free, fun b o e hx => ?_, I.base.tups, I.base.frzs, I.base.tbls⟩, ⟨_, hn', fun j y v' e1 e2 e3 => ?_⟩, fun y c e => ?_, I.free, I.freeC, fun p hp => ?_, fun b ob e => ?_, by simpa using I.len⟩
  · obtain ⟨sl, e1⟩ := I.base.slot b o e n hb hx
    exact ⟨sl, (hs.2 b (bel e)).trans e1⟩
  · obtain ⟨o', e1⟩ := I.base.there b o e hx
    exact ⟨o', (hs.2 b (bel e)).trans e1⟩
  · by_cases hj : j = i
    · subst hj
      rw [List.getElem?_set_self hiσ] at e2
      cases e2
    · rw [List.getElem?_set_ne (Ne.symm hj)] at e2
      obtain ⟨u', r', q⟩ := hl j y v' e1 e2 e3
      refine ⟨u', r', ?_⟩
      rcases q with ⟨k, e⟩ | ⟨k, c, e, z⟩
      · refine .inl ⟨k, ?_⟩
        have : y ≠ n := fun e => hj (nodup_ix hN e1 (e ▸ hi))
        simp [this, e]
      · exact .inr ⟨k, c, e, z.sameBut hs (cne y c e)⟩
  · obtain ⟨w', z⟩ := I.cell y c e
    exact ⟨w', z.sameBut hs (cne y c e)⟩
  · obtain ⟨e, n, ne, nf, d⟩ := I.pin p hp
    exact ⟨(hs.2 p.1 ne).trans e, n, ne, nf, d⟩
  · refine (I.hok b ob e).stay (fun c w' hc q => (hs.2 c ?_).trans q) (fun _ q => q) fun _ _ q => q
    rintro rfl
    rcases hc with rfl | hc
    · rw [I.free] at e; cases e
    · rw [I.free] at hc; cases hc
structure Clause (K : PySem.W.Frag) (mg : Str → Option Value) (x : Str) (S : Addr) : Prop where
  nm : mg x = some (.ref S)
  ty : PySem.W.typeIn K (.ref S) = some (.type "type")
  cl : (PySem.W.clsIn K S).isSome = true
  bs : PySem.W.mroIn K S (.type "BaseException") = some true
end
end L3

/-! try: f(..) as a statement of its own, except C as n: z = n. -/
namespace L3
open PySem PySem.Spec PyProof.Rows L2
section
variable {X : Cx} {pins : List (Addr × Obj)} {σ : L2.St} {H : Hp} {s : Shared}
def tTryE (K : PySem.W.Frag) (S : Addr) (iz ie : Nat) (sp : Sp) (t : TA) : TS := fun D σ H => t σ H fun vs H1 => sp vs H1 (fun _ H2 => D.nx σ H2)
  fun c _ H2 => ∃ C, c = .ref C ∧ PySem.W.mroIn K C (.ref S) = some true ∧ ∀ x, H2 x = none → D.nx (((σ.set ie (some (.ref x))).set iz (some (.ref x))).set ie none) (upd H2 x (Exc x C))
end
end L3

/-! a try whose block chooses between three calls, each a statement of its own. -/
namespace L3
open PySem PySem.Spec PyProof.Rows L2 PySem.W
section
variable {X : Cx}
def tTryE3 (K : PySem.W.Frag) (S : Addr) (iz ie : Nat) (tc : TT) (sp1 : Sp) (t1 : TA) (td : TT) (sp2 : Sp) (t2 : TA) (sp3 : Sp) (t3 : TA) : TS := fun D σ H => tc σ H fun b H1 => if b = true then tTryE K S iz ie sp1 t1 D σ H1 else td σ H1 fun b' H2 => if b' = true then tTryE K S iz ie sp2 t2 D σ H2 else tTryE K S iz ie sp3 t3 D σ H2
theorem ps_tryE3 {c d : Expr} {tc td : TT} {x1 x2 x3 z n S : Str} {SA : Addr} {iz ie : Nat} {ps1 ps2 ps3 : List Str} {k1 k2 k3 k' : Nat} {sp1 sp2 sp3 : Sp} {fp1 cp1 ap1 fp2 cp2 ap2 fp3 cp3 ap3 ip jp spp np zp zap hp pos : Pos} {e1 e2 e3 : Expr} {es1 es2 es3 : List Expr} {t1 t2 t3 : TA} (hxe : X.xe = fun _ _ => False) (hr : Room k' X.A) (hc : PT X c tc) (hd : PT X d td)
    (C1 : Cal1 X.prog X.w X.K X.mg X.base x1 ps1 k1 sp1) (hk1 : k1 ≤ k') (hg1 : Gl X x1) (ha1 : PA X (e1 :: es1) t1)
    (C2 : Cal1 X.prog X.w X.K X.mg X.base x2 ps2 k2 sp2) (hk2 : k2 ≤ k') (hg2 : Gl X x2) (ha2 : PA X (e2 :: es2) t2)
    (C3 : Cal1 X.prog X.w X.K X.mg X.base x3 ps3 k3 sp3) (hk3 : k3 ≤ k') (hg3 : Gl X x3) (ha3 : PA X (e3 :: es3) t3)
    (cl : Clause X.K X.mg S SA) (hgS : Gl X S) (hst : X.stack = X.env :: X.outer) (hfm : X.env.frame = some X.env.locals) (hex : X.ex = []) (hN : X.N.Nodup) (hz : X.N[iz]? = some z) (hn : X.N[ie]? = some n)
    (lz : Loc X.env.scope z) (ln : X.env.scope.names.lookup n = some .local) (hie : ie ≠ iz)
    (fz : X.fn z = true ∨ X.env.scope.names.lookup z = some .local := by first | exact .inl rfl | exact .inr rfl | assumption)
    (hdS : (S == ("__debug__" : Str)) = false := by decide) (hdn : (n == ("__debug__" : Str)) = false := by decide) (hcn : (n == ("__classdict__" : Str)) = false := by decide)
    (hdb1 : (x1 == ("__debug__" : Str)) = false := by decide) (he1 : starEach (e1 :: es1) X.env = (false, eval e1 X.env) :: starEach es1 X.env := by rfl) (hpl1 : (backTo cp1 (starEach es1 X.env)).any (·.1) = false := by rfl)
    (hsw1 : swapsWith (.Call (.Name x1 fp1) (e1 :: es1) [] cp1) none ap1.line X.env = pure false := by rfl)
    (hdb2 : (x2 == ("__debug__" : Str)) = false := by decide) (he2 : starEach (e2 :: es2) X.env = (false, eval e2 X.env) :: starEach es2 X.env := by rfl) (hpl2 : (backTo cp2 (starEach es2 X.env)).any (·.1) = false := by rfl)
    (hsw2 : swapsWith (.Call (.Name x2 fp2) (e2 :: es2) [] cp2) none ap2.line X.env = pure false := by rfl)
    (hdb3 : (x3 == ("__debug__" : Str)) = false := by decide) (he3 : starEach (e3 :: es3) X.env = (false, eval e3 X.env) :: starEach es3 X.env := by rfl) (hpl3 : (backTo cp3 (starEach es3 X.env)).any (·.1) = false := by rfl)
    (hsw3 : swapsWith (.Call (.Name x3 fp3) (e3 :: es3) [] cp3) none ap3.line X.env = pure false := by rfl)
    (hsz : swapsWith (.Name n np) (some (.Name z zp)) zap.line X.env = pure false := by rfl) :
    PS X (.Try [.If c [.Expr (.Call (.Name x1 fp1) (e1 :: es1) [] cp1) ap1] [.If d [.Expr (.Call (.Name x2 fp2) (e2 :: es2) [] cp2) ap2] [.Expr (.Call (.Name x3 fp3) (e3 :: es3) [] cp3) ap3] jp] ip] [.ExceptHandler (some (.Name S spp)) (some n) [.Assign [.Name z zp] (.Name n np) zap] hp] [] [] pos) (tTryE3 X.K SA iz ie tc sp1 t1 td sp2 t2 sp3 t3) := by
  intro pins s0 σ H0 D I0 h0
  refine wpAny_Try_except (wpAny_execs_cons (wpAny_If ?_))
  have run0 := hc pins s0 σ H0 _ I0 h0
  rw [hxe] at run0
  refine toE (thn run0 fun bb s ⟨H, I, h⟩ => ?_)
  cases bb with
  | true =>
    replace h : tTryE X.K SA iz ie sp1 t1 D σ H := h
    show wpAny _ _ (execs [.Expr (.Call (.Name x1 fp1) (e1 :: es1) [] cp1) ap1] X.env) _ _ s
    obtain ⟨f, fd, F, b, kp, hm⟩ := C1
    refine wpAny_execs_cons (wpAny_Expr_any ?_ I.quiet hsw1)
    refine wpAny_Call_Name_kw (ld_glob I hg1 hm ?_ hdb1)
    have run := ha1 cp1 pins s σ H _ I h
    rw [hxe] at run
    refine PySem.W.callWith_K (h₀ := X.base) I.ok.mod.kin kp (toE (thn run fun us s1 ⟨vs, H1, I1, r, q⟩ => ⟨I1.kIn, ?_⟩)) he1 hpl1
    have hl : us.length = ps1.length := by rw [← r.length]; exact F.len _ _ _ _ q
    refine wpAny_call (codeAny_mono (F.run X.A X.stack s1 H1 ⟨us, []⟩ (us ++ []) vs _ _ (hr.mono hk1) I1.env0 (b s1 us I1.kIn (by rw [List.append_nil]; exact hl)) (by rw [List.append_nil]; exact r) q) fun r' s2 hq => ?_)
    cases r' with
    | ok fl =>
      cases fl with
      | ret u =>
        obtain ⟨v, H2, I2, rv, hv⟩ := I1.after hq
        exact wpAny_execs_nil (wpAny_execs_nil (wpAny_execs_nil (⟨_, H2, I2, hv⟩)))
      | next => exact False.elim hq
      | brk => exact False.elim hq
      | cont => exact False.elim hq
    | error ev =>
      obtain ⟨xa, C, H2, B, rfl, Fl, C', hC, hsub, hE⟩ := hq
      cases hC
      obtain ⟨ta, fl⟩ := Fl.fl
      have hfr : X.A.frames = some (X.env :: X.outer) := by rw [← hst]; exact I.ok.frames
      have fl' := fl
      rw [hst] at fl'
      have hxl : xa ≠ X.env.locals := fun z => by
        obtain ⟨m, ⟨o, es', ep, e', _⟩, _⟩ := I1.loc
        rw [← z, Fl.new] at e'; cases e'
      have hxc : ∀ y a, X.env.cells.lookup y = some a → a ≠ xa := fun y a e' z => by
        obtain ⟨v, o, ho, _⟩ := I1.cell y a e'
        rw [z, Fl.new] at ho; cases ho
      have hxp : ∀ p ∈ X.pn ++ pins, p.1 ≠ xa := fun p hp z => by
        have := (I1.pin p hp).1
        rw [z, Fl.new] at this; cases this
      have inv_at : ∀ (h' : Heap), B.StaysIn h' → s2.heap.UpToSlots h' → Inv X pins σ H2 { s2 with heap := h' } := fun h' k1 k2 => by
        obtain ⟨un, hok⟩ := Fl.turn k1 k2
        exact I1.call' (s' := { s2 with heap := h' }) Fl.os un hok Fl.bare (fun b z => absurd z (by simp))
      refine wpAny_looks_onW hfr hfm fl' fun h4 held4 up4 => ?_
      refine wpAny_landsW held4 fun h5 fl5 up5 => ?_
      have up45 := up4.trans up5
      have I5 := inv_at h5 fl5.1 up45
      have c5 : XAt xa C h5 := by obtain ⟨o, e1, e2⟩ := fl5.there; exact ⟨o, e1, e2⟩
      refine wpAny_handleBy_cons (codeAny_handlers_test (ld_glob (X := sui X (.ref xa)) (Inv.suite I5 _) hgS cl.nm ?_ hdS)) (by intro q; cases q)
      refine x_matches I5.kIn c5 cl.ty cl.cl cl.bs hsub ?_
      refine codeAny_handlers_suite_as (lands_againW fl5 fun h6 fl6 up6 => ?_)
      have I6 := inv_at h6 fl6.1 (up45.trans up6)
      have c6 : XAt xa C h6 := by obtain ⟨o, e1, e2⟩ := fl6.there; exact ⟨o, e1, e2⟩
      have x0 : X.s₀.heap.get? xa = none := by
        cases e' : X.s₀.heap.get? xa with
        | none => rfl
        | some o =>
          obtain ⟨o', e1⟩ := I1.base.there xa o e' (by rw [hex]; simp)
          rw [Fl.new] at e1; cases e1
      have I7 := Inv.trackX I6 Fl.xf c6 x0 hxl hxc hxp
      refine store_ok (X := sui X (.ref xa)) (Inv.suite I7 _) hN hn (.inl ln) (v := .ref xa) rfl (fun s8 I8 => ?_) (.inr ln)
      have suite : PSs (sui X (.ref xa)) [.Assign [.Name z zp] (.Name n np) zap] (tAsg (tVar ie) (gName iz)) := pss_one (ps_set hN hz lz (pe_var hn (.inl ln) hdn hcn) hsz fz)
      have hiσ : ie < σ.length := by rw [I.len]; exact (List.getElem?_eq_some_iff.mp hn).1
      have go := suite pins s8 _ _ { nx := fun σ' H' => σ' = (σ.set ie (some (.ref xa))).set iz (some (.ref xa)) ∧ H' = upd H2 xa (Exc xa C), rt := fun _ _ => False } I8 ⟨_, List.getElem?_set_self hiσ, rfl, rfl⟩
      refine toE (wpAny_mono go (fun f s9 hf => ?_) fun _ _ z => z)
      cases f with
      | next =>
        obtain ⟨σ9, H9, I9, rfl, rfl⟩ := hf
        exact goes_ok (Inv.unsuite I.ok I9) hN hn ln fun s10 I10 => ⟨_, _, I10, hE xa Fl.xf⟩
      | ret u => obtain ⟨_, _, _, _, _, z⟩ := hf; exact z.elim
      | brk => obtain ⟨_, _, _, z⟩ := hf; exact z.elim
      | cont => obtain ⟨_, _, _, z⟩ := hf; exact z.elim
  | false =>
    replace h : td σ H fun b' H2 => if b' = true then tTryE X.K SA iz ie sp2 t2 D σ H2 else tTryE X.K SA iz ie sp3 t3 D σ H2 := h
    show wpAny _ _ (execs [.If d [.Expr (.Call (.Name x2 fp2) (e2 :: es2) [] cp2) ap2] [.Expr (.Call (.Name x3 fp3) (e3 :: es3) [] cp3) ap3] jp] X.env) _ _ s
    refine wpAny_execs_cons (wpAny_If ?_)
    have run1 := hd pins s σ H _ I h
    rw [hxe] at run1
    refine toE (thn run1 fun b2 s ⟨H, I, h⟩ => ?_)
    cases b2 with
    | true =>
      replace h : tTryE X.K SA iz ie sp2 t2 D σ H := h
      show wpAny _ _ (execs [.Expr (.Call (.Name x2 fp2) (e2 :: es2) [] cp2) ap2] X.env) _ _ s
      obtain ⟨f, fd, F, b, kp, hm⟩ := C2
      refine wpAny_execs_cons (wpAny_Expr_any ?_ I.quiet hsw2)
      refine wpAny_Call_Name_kw (ld_glob I hg2 hm ?_ hdb2)
      have run := ha2 cp2 pins s σ H _ I h
      rw [hxe] at run
      refine PySem.W.callWith_K (h₀ := X.base) I.ok.mod.kin kp (toE (thn run fun us s1 ⟨vs, H1, I1, r, q⟩ => ⟨I1.kIn, ?_⟩)) he2 hpl2
      have hl : us.length = ps2.length := by rw [← r.length]; exact F.len _ _ _ _ q
      refine wpAny_call (codeAny_mono (F.run X.A X.stack s1 H1 ⟨us, []⟩ (us ++ []) vs _ _ (hr.mono hk2) I1.env0 (b s1 us I1.kIn (by rw [List.append_nil]; exact hl)) (by rw [List.append_nil]; exact r) q) fun r' s2 hq => ?_)
      cases r' with
      | ok fl =>
        cases fl with
        | ret u =>
          obtain ⟨v, H2, I2, rv, hv⟩ := I1.after hq
          exact wpAny_execs_nil (wpAny_execs_nil (wpAny_execs_nil (wpAny_execs_nil (⟨_, H2, I2, hv⟩))))
        | next => exact False.elim hq
        | brk => exact False.elim hq
        | cont => exact False.elim hq
      | error ev =>
        obtain ⟨xa, C, H2, B, rfl, Fl, C', hC, hsub, hE⟩ := hq
        cases hC
        obtain ⟨ta, fl⟩ := Fl.fl
        have hfr : X.A.frames = some (X.env :: X.outer) := by rw [← hst]; exact I.ok.frames
        have fl' := fl
        rw [hst] at fl'
        have hxl : xa ≠ X.env.locals := fun z => by
          obtain ⟨m, ⟨o, es', ep, e', _⟩, _⟩ := I1.loc
          rw [← z, Fl.new] at e'; cases e'
        have hxc : ∀ y a, X.env.cells.lookup y = some a → a ≠ xa := fun y a e' z => by
          obtain ⟨v, o, ho, _⟩ := I1.cell y a e'
          rw [z, Fl.new] at ho; cases ho
        have hxp : ∀ p ∈ X.pn ++ pins, p.1 ≠ xa := fun p hp z => by
          have := (I1.pin p hp).1
          rw [z, Fl.new] at this; cases this
        have inv_at : ∀ (h' : Heap), B.StaysIn h' → s2.heap.UpToSlots h' → Inv X pins σ H2 { s2 with heap := h' } := fun h' k1 k2 => by
          obtain ⟨un, hok⟩ := Fl.turn k1 k2
          exact I1.call' (s' := { s2 with heap := h' }) Fl.os un hok Fl.bare (fun b z => absurd z (by simp))
        refine wpAny_looks_onW hfr hfm fl' fun h4 held4 up4 => ?_
        refine wpAny_landsW held4 fun h5 fl5 up5 => ?_
        have up45 := up4.trans up5
        have I5 := inv_at h5 fl5.1 up45
        have c5 : XAt xa C h5 := by obtain ⟨o, e1, e2⟩ := fl5.there; exact ⟨o, e1, e2⟩
        refine wpAny_handleBy_cons (codeAny_handlers_test (ld_glob (X := sui X (.ref xa)) (Inv.suite I5 _) hgS cl.nm ?_ hdS)) (by intro q; cases q)
        refine x_matches I5.kIn c5 cl.ty cl.cl cl.bs hsub ?_
        refine codeAny_handlers_suite_as (lands_againW fl5 fun h6 fl6 up6 => ?_)
        have I6 := inv_at h6 fl6.1 (up45.trans up6)
        have c6 : XAt xa C h6 := by obtain ⟨o, e1, e2⟩ := fl6.there; exact ⟨o, e1, e2⟩
        have x0 : X.s₀.heap.get? xa = none := by
          cases e' : X.s₀.heap.get? xa with
          | none => rfl
          | some o =>
            obtain ⟨o', e1⟩ := I1.base.there xa o e' (by rw [hex]; simp)
            rw [Fl.new] at e1; cases e1
        have I7 := Inv.trackX I6 Fl.xf c6 x0 hxl hxc hxp
        refine store_ok (X := sui X (.ref xa)) (Inv.suite I7 _) hN hn (.inl ln) (v := .ref xa) rfl (fun s8 I8 => ?_) (.inr ln)
        have suite : PSs (sui X (.ref xa)) [.Assign [.Name z zp] (.Name n np) zap] (tAsg (tVar ie) (gName iz)) := pss_one (ps_set hN hz lz (pe_var hn (.inl ln) hdn hcn) hsz fz)
        have hiσ : ie < σ.length := by rw [I.len]; exact (List.getElem?_eq_some_iff.mp hn).1
        have go := suite pins s8 _ _ { nx := fun σ' H' => σ' = (σ.set ie (some (.ref xa))).set iz (some (.ref xa)) ∧ H' = upd H2 xa (Exc xa C), rt := fun _ _ => False } I8 ⟨_, List.getElem?_set_self hiσ, rfl, rfl⟩
        refine toE (wpAny_mono go (fun f s9 hf => ?_) fun _ _ z => z)
        cases f with
        | next =>
          obtain ⟨σ9, H9, I9, rfl, rfl⟩ := hf
          exact goes_ok (Inv.unsuite I.ok I9) hN hn ln fun s10 I10 => ⟨_, _, I10, hE xa Fl.xf⟩
        | ret u => obtain ⟨_, _, _, _, _, z⟩ := hf; exact z.elim
        | brk => obtain ⟨_, _, _, z⟩ := hf; exact z.elim
        | cont => obtain ⟨_, _, _, z⟩ := hf; exact z.elim
    | false =>
      replace h : tTryE X.K SA iz ie sp3 t3 D σ H := h
      show wpAny _ _ (execs [.Expr (.Call (.Name x3 fp3) (e3 :: es3) [] cp3) ap3] X.env) _ _ s
      obtain ⟨f, fd, F, b, kp, hm⟩ := C3
      refine wpAny_execs_cons (wpAny_Expr_any ?_ I.quiet hsw3)
      refine wpAny_Call_Name_kw (ld_glob I hg3 hm ?_ hdb3)
      have run := ha3 cp3 pins s σ H _ I h
      rw [hxe] at run
      refine PySem.W.callWith_K (h₀ := X.base) I.ok.mod.kin kp (toE (thn run fun us s1 ⟨vs, H1, I1, r, q⟩ => ⟨I1.kIn, ?_⟩)) he3 hpl3
      have hl : us.length = ps3.length := by rw [← r.length]; exact F.len _ _ _ _ q
      refine wpAny_call (codeAny_mono (F.run X.A X.stack s1 H1 ⟨us, []⟩ (us ++ []) vs _ _ (hr.mono hk3) I1.env0 (b s1 us I1.kIn (by rw [List.append_nil]; exact hl)) (by rw [List.append_nil]; exact r) q) fun r' s2 hq => ?_)
      cases r' with
      | ok fl =>
        cases fl with
        | ret u =>
          obtain ⟨v, H2, I2, rv, hv⟩ := I1.after hq
          exact wpAny_execs_nil (wpAny_execs_nil (wpAny_execs_nil (wpAny_execs_nil (⟨_, H2, I2, hv⟩))))
        | next => exact False.elim hq
        | brk => exact False.elim hq
        | cont => exact False.elim hq
      | error ev =>
        obtain ⟨xa, C, H2, B, rfl, Fl, C', hC, hsub, hE⟩ := hq
        cases hC
        obtain ⟨ta, fl⟩ := Fl.fl
        have hfr : X.A.frames = some (X.env :: X.outer) := by rw [← hst]; exact I.ok.frames
        have fl' := fl
        rw [hst] at fl'
        have hxl : xa ≠ X.env.locals := fun z => by
          obtain ⟨m, ⟨o, es', ep, e', _⟩, _⟩ := I1.loc
          rw [← z, Fl.new] at e'; cases e'
        have hxc : ∀ y a, X.env.cells.lookup y = some a → a ≠ xa := fun y a e' z => by
          obtain ⟨v, o, ho, _⟩ := I1.cell y a e'
          rw [z, Fl.new] at ho; cases ho
        have hxp : ∀ p ∈ X.pn ++ pins, p.1 ≠ xa := fun p hp z => by
          have := (I1.pin p hp).1
          rw [z, Fl.new] at this; cases this
        have inv_at : ∀ (h' : Heap), B.StaysIn h' → s2.heap.UpToSlots h' → Inv X pins σ H2 { s2 with heap := h' } := fun h' k1 k2 => by
          obtain ⟨un, hok⟩ := Fl.turn k1 k2
          exact I1.call' (s' := { s2 with heap := h' }) Fl.os un hok Fl.bare (fun b z => absurd z (by simp))
        refine wpAny_looks_onW hfr hfm fl' fun h4 held4 up4 => ?_
        refine wpAny_landsW held4 fun h5 fl5 up5 => ?_
        have up45 := up4.trans up5
        have I5 := inv_at h5 fl5.1 up45
        have c5 : XAt xa C h5 := by obtain ⟨o, e1, e2⟩ := fl5.there; exact ⟨o, e1, e2⟩
        refine wpAny_handleBy_cons (codeAny_handlers_test (ld_glob (X := sui X (.ref xa)) (Inv.suite I5 _) hgS cl.nm ?_ hdS)) (by intro q; cases q)
        refine x_matches I5.kIn c5 cl.ty cl.cl cl.bs hsub ?_
        refine codeAny_handlers_suite_as (lands_againW fl5 fun h6 fl6 up6 => ?_)
        have I6 := inv_at h6 fl6.1 (up45.trans up6)
        have c6 : XAt xa C h6 := by obtain ⟨o, e1, e2⟩ := fl6.there; exact ⟨o, e1, e2⟩
        have x0 : X.s₀.heap.get? xa = none := by
          cases e' : X.s₀.heap.get? xa with
          | none => rfl
          | some o =>
            obtain ⟨o', e1⟩ := I1.base.there xa o e' (by rw [hex]; simp)
            rw [Fl.new] at e1; cases e1
        have I7 := Inv.trackX I6 Fl.xf c6 x0 hxl hxc hxp
        refine store_ok (X := sui X (.ref xa)) (Inv.suite I7 _) hN hn (.inl ln) (v := .ref xa) rfl (fun s8 I8 => ?_) (.inr ln)
        have suite : PSs (sui X (.ref xa)) [.Assign [.Name z zp] (.Name n np) zap] (tAsg (tVar ie) (gName iz)) := pss_one (ps_set hN hz lz (pe_var hn (.inl ln) hdn hcn) hsz fz)
        have hiσ : ie < σ.length := by rw [I.len]; exact (List.getElem?_eq_some_iff.mp hn).1
        have go := suite pins s8 _ _ { nx := fun σ' H' => σ' = (σ.set ie (some (.ref xa))).set iz (some (.ref xa)) ∧ H' = upd H2 xa (Exc xa C), rt := fun _ _ => False } I8 ⟨_, List.getElem?_set_self hiσ, rfl, rfl⟩
        refine toE (wpAny_mono go (fun f s9 hf => ?_) fun _ _ z => z)
        cases f with
        | next =>
          obtain ⟨σ9, H9, I9, rfl, rfl⟩ := hf
          exact goes_ok (Inv.unsuite I.ok I9) hN hn ln fun s10 I10 => ⟨_, _, I10, hE xa Fl.xf⟩
        | ret u => obtain ⟨_, _, _, _, _, z⟩ := hf; exact z.elim
        | brk => obtain ⟨_, _, _, z⟩ := hf; exact z.elim
        | cont => obtain ⟨_, _, _, z⟩ := hf; exact z.elim
end
end L3
namespace L3
open PySem PySem.Spec PyProof.Rows L2
theorem pss_any {X : Cx} {ss : List Stmt} : PSs X ss (fun _ _ _ => False) := fun _ _ _ _ _ _ h => h.elim
end L3
namespace L3
open PySem PySem.Spec PyProof.Rows L2
end L3

/-! Dicts: setdefault, get; keys that are numbers, texts, or tuples of these. -/
namespace L3
open PySem PySem.Spec PyProof.Rows L2
section
variable {prog : Program} {w : World} {κ : Type} [DecidableEq κ] {knd : HeapKind prog w κ} {A : Around} {E : Value → Shared → Prop} {s : Shared}
end
section
variable {X : Cx}
end
end L3

/-! A loop over a text. -/
namespace L3
open PySem PySem.Spec PyProof.Rows L2
section
variable {X : Cx} {tg : Expr}
end
end L3

/-! A dict of whatever keys, walked: list(d), sorted(d), for k in d. -/
namespace L3
open PySem PySem.Spec PyProof.Rows L2 PySem.W
section
variable {prog : Program} {w : World} {A : Around} {E : Value → Shared → Prop} {s : Shared} {d it : Addr} {es : Array DictEntry} {p i : Nat}
end
end L3

/-! Dicts: len, list, sorted. -/
namespace L3
open PySem PySem.Spec PyProof.Rows L2 PySem.W
section
variable {prog : Program} {w : World} {A : Around} {E : Value → Shared → Prop} {s : Shared} {d : Addr} {es : Array DictEntry} {p : Nat}
end
end L3

/-! Dicts in calls: len(d), list(d), sorted(d). -/
namespace L3
open PySem PySem.Spec PyProof.Rows L2 PySem.W
section
variable {X : Cx} {pins : List (Addr × Obj)} {σ : L2.St} {H : Hp} {s : Shared} {a : Addr}
end
end L3
namespace L3
open PySem PySem.Spec PyProof.Rows L2
end L3

/-! isinstance of deep data. -/
namespace L3
open PySem PySem.Spec PyProof.Rows L2
section
variable {X : Cx}
end
end L3
namespace L3
open PySem PySem.Spec PyProof.Rows L2
section
variable {X : Cx}
end
end L3

/-! zip of a tuple and a list, walked with a pair of names. -/
namespace L3
open PySem PySem.Spec PyProof.Rows L2 PySem.W
section
variable {prog : Program} {w : World} {A : Around} {E : Value → Shared → Prop} {s : Shared}
variable {z TI TO i1 i2 : Addr} {f1 f2 : List Addr} {xs ys : Array Value} {S1 S2 : Nat → Heap → Prop}
end
section
variable {X : Cx} {pins : List (Addr × Obj)} {σ : List (Option V)} {H : Hp} {s : Shared} {h' : Heap}
end
section
variable {prog : Program} {w : World} {A : Around} {E : Value → Shared → Prop} {s : Shared}
end
section
variable {X : Cx}
end
end L3

/-! x[::-1] of a text. -/
namespace L3
open PySem PySem.Spec PyProof.Rows L2
section
variable {X : Cx} {e st : Expr} {te ts : TE} {pos p2 : Pos}
end
end L3

/-! the fragment named outright, everywhere: the readings are shorter so. -/
namespace L3
open PySem PySem.Spec PyProof.Rows L2
theorem kPI {X : Cx} {K : PySem.W.Frag} {tg it : Expr} (f : PySem.W.Frag → TI) (h : PI X tg it (f X.K)) (e : X.K = K := by rfl) : PI X tg it (f K) := e ▸ h
theorem kPE {X : Cx} {K : PySem.W.Frag} {ex : Expr} (f : PySem.W.Frag → TE) (h : PE X ex (f X.K)) (e : X.K = K := by rfl) : PE X ex (f K) := e ▸ h
theorem kCall {X : Cx} {K : PySem.W.Frag} {f : Value} (r : PySem.W.Frag → List V → Hp → VK → Prop) (h : CallR X f (r X.K)) (e : X.K = K := by rfl) : CallR X f (r K) := e ▸ h
def rLo (K : PySem.W.Frag) : List V → Hp → VK → Prop := fun xs H Q => ∃ p ys, xs = [.ref p] ∧ (SqL K H p ys ∨ SqT K H p ys) ∧ ∀ l, H l = none → Q (.ref l) (upd H l (.lst ys))
def rIsX (K : PySem.W.Frag) : List V → Hp → VK → Prop := fun xs H Q => ∃ x C y u b, xs = [.ref x, y] ∧ H x = some (Exc x C) ∧ XCls K C ∧ clsV y = some u ∧ PySem.W.kitOne K (.ref C) u = some b ∧ Q (.bl b) H
end L3

namespace My
open PySem PySem.Spec PyProof.Rows L2 L3
def top (i : Nat) : Stmt := PySem.Challenge.pw_earlyscribe_k84_rooms_above_eight.main.body.getD i (.Pass ⟨0, 0, 0, 0⟩)
end My
lay_quick PySem.Challenge.pw_earlyscribe_k84_rooms_above_eight
namespace My
open PySem PySem.W PyProof.Rows L2 L3
abbrev fog (x : Str) (st : Stmt) (oc : Value) (od : Option Addr) (g b : Addr) (kV dc pm : Value) (an : Option Addr) (cd ct : Value) (sl : Array (Option Value)) : Obj := ⟨oc, od, .func ⟨x, x, defArgs st, .stmts (defBody st), defScope st, g, [], .none, kV, dc, pm, an, cd, ct, b⟩, sl⟩
abbrev fob (x : Str) (st : Stmt) (oc : Value) (od : Option Addr) (kV dc pm : Value) (an : Option Addr) (cd ct : Value) (sl : Array (Option Value)) : Obj := ⟨oc, od, .func (fnOf x x (defArgs st) (defBody st) (defScope st) .none kV dc pm an cd ct), sl⟩
abbrev de (P : Params) (x : Str) (t : Tok) (v : Value) : DictEntry := ⟨PySem.PyData.keyHash P x, .str x t, v⟩
abbrev cob (x : Str) (a b c : Tok) (l n : Int) (r r2 v1 v2 v3 v4 : Value) (n6 : Int) (c2 : Tok) : Obj := ⟨.type "code", none, .fields #[.str x a, .str x b, .str "/claim/cut.py" c, .int l 0, .int n 0, .int 0 0, .int 0 0, .int 3 0, r, .bool true, .int 181 0, r2, v1, v2, v3, v4, .int n6 0, .int l 0, .str "/claim/cut.py" c2], #[]⟩
noncomputable def ko2 (P : Params) : Obj := ⟨.none, none, (.dict #[] 0), #[]⟩
noncomputable def ko3 (P : Params) : Obj := ⟨(.type "dict"), none, (.dict #[de P "__name__" 165 (.str "law_earlyscribe_k84_rooms_above_eight" 1021), de P "__doc__" 166 .none, de P "__package__" 167 .none, de P "__loader__" 168 (.builtin "__main__.__loader__#opaque"), de P "__spec__" 169 .none, de P "__annotations__" 170 (.ref 6), de P "__builtins__" 171 (.ref 4), de P "__file__" 173 (.str "/claim/cut.py" 172), de P "__cached__" 174 .none, de P "ScribeError" 206 (.ref 24), de P "NoWay" 222 (.ref 37), de P "NoRoom" 238 (.ref 49), de P "NotPlain" 254 (.ref 61), de P "OtherSigns" 270 (.ref 73), de P "TooMany" 286 (.ref 85), de P "TwoWays" 311 (.ref 104), de P "NeverPlain" 338 (.ref 123), de P "NoText" 354 (.ref 135), de P "SIGNS" 358 (.int 0 357), de P "ROOMS" 360 (.int 1 359), de P "BEGINS" 362 (.int 2 361), de P "STEPS" 364 (.int 3 363), de P "ENDS" 366 (.int 4 365), de P "MOST_ROOMS" 368 (.int 200 367), de P "MOST_PAIRS" 370 (.int 1000 369), de P "steps_by_start" 379 (.ref 144), de P "end_words_by_room" 389 (.ref 151), de P "refuse_many" 396 (.ref 158), de P "pairs_behind" 409 (.ref 165), de P "OUT_OF" 413 (.int 0 412), de P "INTO" 415 (.int 3 414), de P "places_at" 426 (.ref 172), de P "traces_from" 444 (.ref 179), de P "traces_from_begins" 451 (.ref 186), de P "traces_to_ends" 458 (.ref 193), de P "trail_of" 470 (.ref 200), de P "useful_rooms" 476 (.ref 205), de P "marks_kept" 482 (.ref 210), de P "steps_kept" 488 (.ref 215), de P "trimmed_of" 500 (.ref 222), de P "MOST_ROOMS_WITH_CHOICES" 504 (.int 8 503), de P "PLACES" 506 (.int 1 505), de P "WORDS" 508 (.int 2 507), de P "refuse_many_rooms" 515 (.ref 229), de P "two_of_each" 526 (.ref 236), de P "doubled_marks" 532 (.ref 241), de P "places_by_sign" 538 (.ref 246), de P "doubled_steps" 553 (.ref 253), de P "doubled_of" 563 (.ref 260), de P "behind_one_another" 571 (.ref 267), de P "words_ahead" 583 (.ref 274), de P "words_behind" 595 (.ref 281), de P "are_apart" 603 (.ref 288), de P "way_apart_by_begin" 615 (.ref 295), de P "trail_from_begin" 624 (.ref 302), de P "way_apart_by_step" 640 (.ref 309), de P "way_apart_by_end" 652 (.ref 316), de P "way_apart" 662 (.ref 323), de P "single_way" 668 (.ref 328), de P "two_ways" 677 (.ref 335), de P "shared_length" 690 (.ref 342), de P "common_of" 699 (.ref 349), de P "gap_of" 708 (.ref 356), de P "each_once" 719 (.ref 363), de P "numbers_as_come_to" 725 (.ref 368), de P "numbered_of" 731 (.ref 373), de P "RESTS_TO_GO_ON_FROM" 735 (.int 2 734), de P "NOTHING" 738 (.ref 374), de P "are_all_in" 744 (.ref 379), de P "double_of_use" 750 (.ref 384), de P "rest_behind" 759 (.ref 391), de P "longer_rows" 771 (.ref 398), de P "rows_by_rest" 777 (.ref 403), de P "around_pair" 786 (.ref 410), de P "round_to_ask" 805 (.ref 417), de P "row_to_round" 820 (.ref 424), de P "single_round" 826 (.ref 429), de P "rounds_at" 839 (.ref 436), de P "rounds_apart" 845 (.ref 441), de P "shared_and_set" 853 (.ref 446), de P "refuse_further_set" 860 (.ref 453), de P "made_ends" 866 (.ref 458), de P "made_of" 882 (.ref 465), de P "made_plain" 892 (.ref 472), de P "LETTERS" 896 (.str "abcdefghijklmnopqrstuvwxyz" 895), de P "starts_by_goal" 902 (.ref 477), de P "rooms_ahead" 914 (.ref 484), de P "rooms_with_ends" 920 (.ref 489), de P "first_mark" 930 (.ref 496), de P "letters_for" 936 (.ref 501), de P "sets_and_moves" 949 (.ref 508), de P "back_of" 955 (.ref 513), de P "steps_from_first" 969 (.ref 520), de P "steps_in_two" 982 (.ref 527), de P "unlike_steps" 991 (.ref 534), de P "all_forth_steps" 1003 (.ref 541), de P "forth_of" 1009 (.ref 546), de P "two_passes" 1020 (.ref 553), de P "_law_cell_at" 1030 (.ref 560), de P "_law_mixed" 1039 (.ref 567), de P "_law_copy" 1046 (.ref 574), de P "_law_alone" 1052 (.ref 579), de P "law" 1072 (.ref 586)] 103), #[]⟩
noncomputable def ko23 (P : Params) : Obj := ⟨(.type "dict"), none, (.dict #[de P "__module__" 196 (.str "earlyscribe.errors" 187), de P "__firstlineno__" 200 (.int 2 199), de P "__static_attributes__" 201 (.ref 22), de P "__weakref__" 203 (.ref 25), de P "__doc__" 204 .none] 3), #[]⟩
noncomputable def ko24 (P : Params) : Obj := ⟨(.type "type"), none, (.cls ⟨"ScribeError", [(.type "ValueError")], [(.ref 24), (.type "ValueError"), (.type "Exception"), (.type "BaseException"), (.type "object")], 23, "ScribeError", true, [], [(.ref 37), (.ref 49), (.ref 61), (.ref 73), (.ref 85), (.ref 104), (.ref 123), (.ref 135)], false, none, false⟩), #[(some (.ref 15)), none, (some (.str "ScribeError" 189)), (some (.str "ScribeError" 197)), (some (.builtin "ValueError.__new__")), (some (.bool true))]⟩
noncomputable def ko36 (P : Params) : Obj := ⟨(.type "dict"), none, (.dict #[de P "__module__" 214 (.str "earlyscribe.errors" 187), de P "__firstlineno__" 218 (.int 4 217), de P "__static_attributes__" 219 (.ref 35), de P "__doc__" 220 .none] 2), #[]⟩
noncomputable def ko37 (P : Params) : Obj := ⟨(.type "type"), none, (.cls ⟨"NoWay", [(.ref 24)], [(.ref 37), (.ref 24), (.type "ValueError"), (.type "Exception"), (.type "BaseException"), (.type "object")], 36, "NoWay", true, [], [], false, none, false⟩), #[(some (.ref 28)), none, (some (.str "NoWay" 207)), (some (.str "NoWay" 215)), (some (.builtin "ValueError.__new__")), (some (.bool true))]⟩
noncomputable def ko48 (P : Params) : Obj := ⟨(.type "dict"), none, (.dict #[de P "__module__" 230 (.str "earlyscribe.errors" 187), de P "__firstlineno__" 234 (.int 6 233), de P "__static_attributes__" 235 (.ref 47), de P "__doc__" 236 .none] 2), #[]⟩
noncomputable def ko49 (P : Params) : Obj := ⟨(.type "type"), none, (.cls ⟨"NoRoom", [(.ref 24)], [(.ref 49), (.ref 24), (.type "ValueError"), (.type "Exception"), (.type "BaseException"), (.type "object")], 48, "NoRoom", true, [], [], false, none, false⟩), #[(some (.ref 40)), none, (some (.str "NoRoom" 223)), (some (.str "NoRoom" 231)), (some (.builtin "ValueError.__new__")), (some (.bool true))]⟩
noncomputable def ko60 (P : Params) : Obj := ⟨(.type "dict"), none, (.dict #[de P "__module__" 246 (.str "earlyscribe.errors" 187), de P "__firstlineno__" 250 (.int 8 249), de P "__static_attributes__" 251 (.ref 59), de P "__doc__" 252 .none] 2), #[]⟩
noncomputable def ko61 (P : Params) : Obj := ⟨(.type "type"), none, (.cls ⟨"NotPlain", [(.ref 24)], [(.ref 61), (.ref 24), (.type "ValueError"), (.type "Exception"), (.type "BaseException"), (.type "object")], 60, "NotPlain", true, [], [], false, none, false⟩), #[(some (.ref 52)), none, (some (.str "NotPlain" 239)), (some (.str "NotPlain" 247)), (some (.builtin "ValueError.__new__")), (some (.bool true))]⟩
noncomputable def ko72 (P : Params) : Obj := ⟨(.type "dict"), none, (.dict #[de P "__module__" 262 (.str "earlyscribe.errors" 187), de P "__firstlineno__" 266 (.int 10 265), de P "__static_attributes__" 267 (.ref 71), de P "__doc__" 268 .none] 2), #[]⟩
noncomputable def ko73 (P : Params) : Obj := ⟨(.type "type"), none, (.cls ⟨"OtherSigns", [(.ref 24)], [(.ref 73), (.ref 24), (.type "ValueError"), (.type "Exception"), (.type "BaseException"), (.type "object")], 72, "OtherSigns", true, [], [], false, none, false⟩), #[(some (.ref 64)), none, (some (.str "OtherSigns" 255)), (some (.str "OtherSigns" 263)), (some (.builtin "ValueError.__new__")), (some (.bool true))]⟩
noncomputable def ko84 (P : Params) : Obj := ⟨(.type "dict"), none, (.dict #[de P "__module__" 278 (.str "earlyscribe.errors" 187), de P "__firstlineno__" 282 (.int 12 281), de P "__static_attributes__" 283 (.ref 83), de P "__doc__" 284 .none] 2), #[]⟩
noncomputable def ko85 (P : Params) : Obj := ⟨(.type "type"), none, (.cls ⟨"TooMany", [(.ref 24)], [(.ref 85), (.ref 24), (.type "ValueError"), (.type "Exception"), (.type "BaseException"), (.type "object")], 84, "TooMany", true, [], [], false, none, false⟩), #[(some (.ref 76)), none, (some (.str "TooMany" 271)), (some (.str "TooMany" 279)), (some (.builtin "ValueError.__new__")), (some (.bool true))]⟩
noncomputable def ko103 (P : Params) : Obj := ⟨(.type "dict"), none, (.dict #[de P "__module__" 294 (.str "earlyscribe.errors" 187), de P "__firstlineno__" 298 (.int 14 297), de P "__init__" 306 (.ref 101), de P "__static_attributes__" 308 (.ref 102), de P "__doc__" 309 .none] 2), #[]⟩
noncomputable def ko104 (P : Params) : Obj := ⟨(.type "type"), none, (.cls ⟨"TwoWays", [(.ref 24)], [(.ref 104), (.ref 24), (.type "ValueError"), (.type "Exception"), (.type "BaseException"), (.type "object")], 103, "TwoWays", true, [], [], false, none, false⟩), #[(some (.ref 88)), none, (some (.str "TwoWays" 287)), (some (.str "TwoWays" 295)), (some (.builtin "ValueError.__new__")), (some (.bool true))]⟩
noncomputable def ko122 (P : Params) : Obj := ⟨(.type "dict"), none, (.dict #[de P "__module__" 319 (.str "earlyscribe.errors" 187), de P "__firstlineno__" 323 (.int 19 322), de P "__init__" 332 (.ref 120), de P "__static_attributes__" 335 (.ref 121), de P "__doc__" 336 .none] 2), #[]⟩
noncomputable def ko123 (P : Params) : Obj := ⟨(.type "type"), none, (.cls ⟨"NeverPlain", [(.ref 24)], [(.ref 123), (.ref 24), (.type "ValueError"), (.type "Exception"), (.type "BaseException"), (.type "object")], 122, "NeverPlain", true, [], [], false, none, false⟩), #[(some (.ref 107)), none, (some (.str "NeverPlain" 312)), (some (.str "NeverPlain" 320)), (some (.builtin "ValueError.__new__")), (some (.bool true))]⟩
noncomputable def ko134 (P : Params) : Obj := ⟨(.type "dict"), none, (.dict #[de P "__module__" 346 (.str "earlyscribe.errors" 187), de P "__firstlineno__" 350 (.int 25 349), de P "__static_attributes__" 351 (.ref 133), de P "__doc__" 352 .none] 2), #[]⟩
noncomputable def ko135 (P : Params) : Obj := ⟨(.type "type"), none, (.cls ⟨"NoText", [(.ref 24)], [(.ref 135), (.ref 24), (.type "ValueError"), (.type "Exception"), (.type "BaseException"), (.type "object")], 134, "NoText", true, [], [], false, none, false⟩), #[(some (.ref 126)), none, (some (.str "NoText" 339)), (some (.str "NoText" 347)), (some (.builtin "ValueError.__new__")), (some (.bool true))]⟩
noncomputable def ko143 (P : Params) : Obj := cob "steps_by_start" 371 372 373 35 1 (.ref 138) (.ref 139) .none (.ref 140) (.ref 141) (.ref 142) 377 378
noncomputable def ko144 (P : Params) : Obj := fob "steps_by_start" (top 18) (.type "function") none .none .none (.str "earlyscribe.scribes" 355) none (.ref 143) .none #[]
noncomputable def ko150 (P : Params) : Obj := cob "end_words_by_room" 380 381 382 40 1 (.ref 145) (.ref 146) .none (.ref 147) (.ref 148) (.ref 149) 387 388
noncomputable def ko151 (P : Params) : Obj := fob "end_words_by_room" (top 19) (.type "function") none .none .none (.str "earlyscribe.scribes" 355) none (.ref 150) .none #[]
noncomputable def ko157 (P : Params) : Obj := cob "refuse_many" 390 391 392 45 1 (.ref 152) (.ref 153) .none (.ref 154) (.ref 155) (.ref 156) 394 395
noncomputable def ko158 (P : Params) : Obj := fob "refuse_many" (top 20) (.type "function") none .none .none (.str "earlyscribe.scribes" 355) none (.ref 157) .none #[]
noncomputable def ko164 (P : Params) : Obj := cob "pairs_behind" 397 398 399 48 3 (.ref 159) (.ref 160) .none (.ref 161) (.ref 162) (.ref 163) 407 408
noncomputable def ko165 (P : Params) : Obj := fob "pairs_behind" (top 21) (.type "function") none .none .none (.str "earlyscribe.scribes" 355) none (.ref 164) .none #[]
noncomputable def ko171 (P : Params) : Obj := cob "places_at" 416 417 418 58 2 (.ref 166) (.ref 167) .none (.ref 168) (.ref 169) (.ref 170) 424 425
noncomputable def ko172 (P : Params) : Obj := fob "places_at" (top 25) (.type "function") none .none .none (.str "earlyscribe.trims" 410) none (.ref 171) .none #[]
noncomputable def ko178 (P : Params) : Obj := cob "traces_from" 427 428 429 63 4 (.ref 173) (.ref 174) .none (.ref 175) (.ref 176) (.ref 177) 442 443
noncomputable def ko179 (P : Params) : Obj := fob "traces_from" (top 26) (.type "function") none .none .none (.str "earlyscribe.trims" 410) none (.ref 178) .none #[]
noncomputable def ko185 (P : Params) : Obj := cob "traces_from_begins" 445 446 447 80 1 (.ref 180) (.ref 181) .none (.ref 182) (.ref 183) (.ref 184) 449 450
noncomputable def ko186 (P : Params) : Obj := fob "traces_from_begins" (top 27) (.type "function") none .none .none (.str "earlyscribe.trims" 410) none (.ref 185) .none #[]
noncomputable def ko192 (P : Params) : Obj := cob "traces_to_ends" 452 453 454 82 1 (.ref 187) (.ref 188) .none (.ref 189) (.ref 190) (.ref 191) 456 457
noncomputable def ko193 (P : Params) : Obj := fob "traces_to_ends" (top 28) (.type "function") none .none .none (.str "earlyscribe.trims" 410) none (.ref 192) .none #[]
noncomputable def ko199 (P : Params) : Obj := cob "trail_of" 459 460 461 84 4 (.ref 194) (.ref 195) .none (.ref 196) (.ref 197) (.ref 198) 468 469
noncomputable def ko200 (P : Params) : Obj := fob "trail_of" (top 29) (.type "function") none .none .none (.str "earlyscribe.trims" 410) none (.ref 199) .none #[]
noncomputable def ko204 (P : Params) : Obj := cob "useful_rooms" 471 472 473 91 1 (.ref 201) (.ref 202) .none .none .none (.ref 203) 474 475
noncomputable def ko205 (P : Params) : Obj := fob "useful_rooms" (top 30) (.type "function") none .none .none (.str "earlyscribe.trims" 410) none (.ref 204) .none #[]
noncomputable def ko209 (P : Params) : Obj := cob "marks_kept" 477 478 479 94 2 (.ref 206) (.ref 207) .none .none .none (.ref 208) 480 481
noncomputable def ko210 (P : Params) : Obj := fob "marks_kept" (top 31) (.type "function") none .none .none (.str "earlyscribe.trims" 410) none (.ref 209) .none #[]
noncomputable def ko214 (P : Params) : Obj := cob "steps_kept" 483 484 485 96 2 (.ref 211) (.ref 212) .none .none .none (.ref 213) 486 487
noncomputable def ko215 (P : Params) : Obj := fob "steps_kept" (top 32) (.type "function") none .none .none (.str "earlyscribe.trims" 410) none (.ref 214) .none #[]
noncomputable def ko221 (P : Params) : Obj := cob "trimmed_of" 489 490 491 99 1 (.ref 216) (.ref 217) .none (.ref 218) (.ref 219) (.ref 220) 498 499
noncomputable def ko222 (P : Params) : Obj := fob "trimmed_of" (top 33) (.type "function") none .none .none (.str "earlyscribe.trims" 410) none (.ref 221) .none #[]
noncomputable def ko228 (P : Params) : Obj := cob "refuse_many_rooms" 509 510 511 111 1 (.ref 223) (.ref 224) .none (.ref 225) (.ref 226) (.ref 227) 513 514
noncomputable def ko229 (P : Params) : Obj := fob "refuse_many_rooms" (top 38) (.type "function") none .none .none (.str "earlyscribe.choices" 501) none (.ref 228) .none #[]
noncomputable def ko235 (P : Params) : Obj := cob "two_of_each" 516 517 518 114 1 (.ref 230) (.ref 231) .none (.ref 232) (.ref 233) (.ref 234) 524 525
noncomputable def ko236 (P : Params) : Obj := fob "two_of_each" (top 39) (.type "function") none .none .none (.str "earlyscribe.choices" 501) none (.ref 235) .none #[]
noncomputable def ko240 (P : Params) : Obj := cob "doubled_marks" 527 528 529 122 1 (.ref 237) (.ref 238) .none .none .none (.ref 239) 530 531
noncomputable def ko241 (P : Params) : Obj := fob "doubled_marks" (top 40) (.type "function") none .none .none (.str "earlyscribe.choices" 501) none (.ref 240) .none #[]
noncomputable def ko245 (P : Params) : Obj := cob "places_by_sign" 533 534 535 131 1 (.ref 242) (.ref 243) .none .none .none (.ref 244) 536 537
noncomputable def ko246 (P : Params) : Obj := fob "places_by_sign" (top 41) (.type "function") none .none .none (.str "earlyscribe.choices" 501) none (.ref 245) .none #[]
noncomputable def ko252 (P : Params) : Obj := cob "doubled_steps" 539 540 541 136 1 (.ref 247) (.ref 248) .none (.ref 249) (.ref 250) (.ref 251) 551 552
noncomputable def ko253 (P : Params) : Obj := fob "doubled_steps" (top 42) (.type "function") none .none .none (.str "earlyscribe.choices" 501) none (.ref 252) .none #[]
noncomputable def ko259 (P : Params) : Obj := cob "doubled_of" 554 555 556 147 1 (.ref 254) (.ref 255) .none (.ref 256) (.ref 257) (.ref 258) 561 562
noncomputable def ko260 (P : Params) : Obj := fob "doubled_of" (top 43) (.type "function") none .none .none (.str "earlyscribe.choices" 501) none (.ref 259) .none #[]
noncomputable def ko266 (P : Params) : Obj := cob "behind_one_another" 564 565 566 152 2 (.ref 261) (.ref 262) .none (.ref 263) (.ref 264) (.ref 265) 569 570
noncomputable def ko267 (P : Params) : Obj := fob "behind_one_another" (top 44) (.type "function") none .none .none (.str "earlyscribe.choices" 501) none (.ref 266) .none #[]
noncomputable def ko273 (P : Params) : Obj := cob "words_ahead" 572 573 574 154 2 (.ref 268) (.ref 269) .none (.ref 270) (.ref 271) (.ref 272) 581 582
noncomputable def ko274 (P : Params) : Obj := fob "words_ahead" (top 45) (.type "function") none .none .none (.str "earlyscribe.choices" 501) none (.ref 273) .none #[]
noncomputable def ko280 (P : Params) : Obj := cob "words_behind" 584 585 586 163 2 (.ref 275) (.ref 276) .none (.ref 277) (.ref 278) (.ref 279) 593 594
noncomputable def ko281 (P : Params) : Obj := fob "words_behind" (top 46) (.type "function") none .none .none (.str "earlyscribe.choices" 501) none (.ref 280) .none #[]
noncomputable def ko287 (P : Params) : Obj := cob "are_apart" 596 597 598 172 2 (.ref 282) (.ref 283) .none (.ref 284) (.ref 285) (.ref 286) 601 602
noncomputable def ko288 (P : Params) : Obj := fob "are_apart" (top 47) (.type "function") none .none .none (.str "earlyscribe.choices" 501) none (.ref 287) .none #[]
noncomputable def ko294 (P : Params) : Obj := cob "way_apart_by_begin" 604 605 606 174 2 (.ref 289) (.ref 290) .none (.ref 291) (.ref 292) (.ref 293) 613 614
noncomputable def ko295 (P : Params) : Obj := fob "way_apart_by_begin" (top 48) (.type "function") none .none .none (.str "earlyscribe.choices" 501) none (.ref 294) .none #[]
noncomputable def ko301 (P : Params) : Obj := cob "trail_from_begin" 616 617 618 181 3 (.ref 296) (.ref 297) .none (.ref 298) (.ref 299) (.ref 300) 622 623
noncomputable def ko302 (P : Params) : Obj := fob "trail_from_begin" (top 49) (.type "function") none .none .none (.str "earlyscribe.choices" 501) none (.ref 301) .none #[]
noncomputable def ko308 (P : Params) : Obj := cob "way_apart_by_step" 625 626 627 183 3 (.ref 303) (.ref 304) .none (.ref 305) (.ref 306) (.ref 307) 638 639
noncomputable def ko309 (P : Params) : Obj := fob "way_apart_by_step" (top 50) (.type "function") none .none .none (.str "earlyscribe.choices" 501) none (.ref 308) .none #[]
noncomputable def ko315 (P : Params) : Obj := cob "way_apart_by_end" 641 642 643 194 2 (.ref 310) (.ref 311) .none (.ref 312) (.ref 313) (.ref 314) 650 651
noncomputable def ko316 (P : Params) : Obj := fob "way_apart_by_end" (top 51) (.type "function") none .none .none (.str "earlyscribe.choices" 501) none (.ref 315) .none #[]
noncomputable def ko322 (P : Params) : Obj := cob "way_apart" 653 654 655 201 1 (.ref 317) (.ref 318) .none (.ref 319) (.ref 320) (.ref 321) 660 661
noncomputable def ko323 (P : Params) : Obj := fob "way_apart" (top 52) (.type "function") none .none .none (.str "earlyscribe.choices" 501) none (.ref 322) .none #[]
noncomputable def ko327 (P : Params) : Obj := cob "single_way" 663 664 665 210 3 (.ref 324) (.ref 325) .none .none .none (.ref 326) 666 667
noncomputable def ko328 (P : Params) : Obj := fob "single_way" (top 53) (.type "function") none .none .none (.str "earlyscribe.choices" 501) none (.ref 327) .none #[]
noncomputable def ko334 (P : Params) : Obj := cob "two_ways" 669 670 671 213 1 (.ref 329) (.ref 330) .none (.ref 331) (.ref 332) (.ref 333) 675 676
noncomputable def ko335 (P : Params) : Obj := fob "two_ways" (top 54) (.type "function") none .none .none (.str "earlyscribe.choices" 501) none (.ref 334) .none #[]
noncomputable def ko341 (P : Params) : Obj := cob "shared_length" 680 681 682 221 2 (.ref 336) (.ref 337) .none (.ref 338) (.ref 339) (.ref 340) 688 689
noncomputable def ko342 (P : Params) : Obj := fob "shared_length" (top 56) (.type "function") none .none .none (.str "earlyscribe.words" 678) none (.ref 341) .none #[]
noncomputable def ko348 (P : Params) : Obj := cob "common_of" 691 692 693 231 1 (.ref 343) (.ref 344) .none (.ref 345) (.ref 346) (.ref 347) 697 698
noncomputable def ko349 (P : Params) : Obj := fob "common_of" (top 57) (.type "function") none .none .none (.str "earlyscribe.words" 678) none (.ref 348) .none #[]
noncomputable def ko355 (P : Params) : Obj := cob "gap_of" 700 701 702 235 2 (.ref 350) (.ref 351) .none (.ref 352) (.ref 353) (.ref 354) 706 707
noncomputable def ko356 (P : Params) : Obj := fob "gap_of" (top 58) (.type "function") none .none .none (.str "earlyscribe.words" 678) none (.ref 355) .none #[]
noncomputable def ko362 (P : Params) : Obj := cob "each_once" 711 712 713 239 1 (.ref 357) (.ref 358) .none (.ref 359) (.ref 360) (.ref 361) 717 718
noncomputable def ko363 (P : Params) : Obj := fob "each_once" (top 60) (.type "function") none .none .none (.str "earlyscribe.forms" 709) none (.ref 362) .none #[]
noncomputable def ko367 (P : Params) : Obj := cob "numbers_as_come_to" 720 721 722 244 1 (.ref 364) (.ref 365) .none .none .none (.ref 366) 723 724
noncomputable def ko368 (P : Params) : Obj := fob "numbers_as_come_to" (top 61) (.type "function") none .none .none (.str "earlyscribe.forms" 709) none (.ref 367) .none #[]
noncomputable def ko372 (P : Params) : Obj := cob "numbered_of" 726 727 728 259 1 (.ref 369) (.ref 370) .none .none .none (.ref 371) 729 730
noncomputable def ko373 (P : Params) : Obj := fob "numbered_of" (top 62) (.type "function") none .none .none (.str "earlyscribe.forms" 709) none (.ref 372) .none #[]
noncomputable def ko378 (P : Params) : Obj := cob "are_all_in" 739 740 741 270 2 (.ref 375) (.ref 376) .none .none .none (.ref 377) 742 743
noncomputable def ko379 (P : Params) : Obj := fob "are_all_in" (top 66) (.type "function") none .none .none (.str "earlyscribe.rounds" 732) none (.ref 378) .none #[]
noncomputable def ko383 (P : Params) : Obj := cob "double_of_use" 745 746 747 272 1 (.ref 380) (.ref 381) .none .none .none (.ref 382) 748 749
noncomputable def ko384 (P : Params) : Obj := fob "double_of_use" (top 67) (.type "function") none .none .none (.str "earlyscribe.rounds" 732) none (.ref 383) .none #[]
noncomputable def ko390 (P : Params) : Obj := cob "rest_behind" 751 752 753 278 2 (.ref 385) (.ref 386) .none (.ref 387) (.ref 388) (.ref 389) 757 758
noncomputable def ko391 (P : Params) : Obj := fob "rest_behind" (top 68) (.type "function") none .none .none (.str "earlyscribe.rounds" 732) none (.ref 390) .none #[]
noncomputable def ko397 (P : Params) : Obj := cob "longer_rows" 760 761 762 281 3 (.ref 392) (.ref 393) .none (.ref 394) (.ref 395) (.ref 396) 769 770
noncomputable def ko398 (P : Params) : Obj := fob "longer_rows" (top 69) (.type "function") none .none .none (.str "earlyscribe.rounds" 732) none (.ref 397) .none #[]
noncomputable def ko402 (P : Params) : Obj := cob "rows_by_rest" 772 773 774 287 1 (.ref 399) (.ref 400) .none .none .none (.ref 401) 775 776
noncomputable def ko403 (P : Params) : Obj := fob "rows_by_rest" (top 70) (.type "function") none .none .none (.str "earlyscribe.rounds" 732) none (.ref 402) .none #[]
noncomputable def ko409 (P : Params) : Obj := cob "around_pair" 778 779 780 303 2 (.ref 404) (.ref 405) .none (.ref 406) (.ref 407) (.ref 408) 784 785
noncomputable def ko410 (P : Params) : Obj := fob "around_pair" (top 71) (.type "function") none .none .none (.str "earlyscribe.rounds" 732) none (.ref 409) .none #[]
noncomputable def ko416 (P : Params) : Obj := cob "round_to_ask" 787 788 789 306 3 (.ref 411) (.ref 412) .none (.ref 413) (.ref 414) (.ref 415) 803 804
noncomputable def ko417 (P : Params) : Obj := fob "round_to_ask" (top 72) (.type "function") none .none .none (.str "earlyscribe.rounds" 732) none (.ref 416) .none #[]
noncomputable def ko423 (P : Params) : Obj := cob "row_to_round" 806 807 808 322 4 (.ref 418) (.ref 419) .none (.ref 420) (.ref 421) (.ref 422) 818 819
noncomputable def ko424 (P : Params) : Obj := fob "row_to_round" (top 73) (.type "function") none .none .none (.str "earlyscribe.rounds" 732) none (.ref 423) .none #[]
noncomputable def ko428 (P : Params) : Obj := cob "single_round" 821 822 823 331 4 (.ref 425) (.ref 426) .none .none .none (.ref 427) 824 825
noncomputable def ko429 (P : Params) : Obj := fob "single_round" (top 74) (.type "function") none .none .none (.str "earlyscribe.rounds" 732) none (.ref 428) .none #[]
noncomputable def ko435 (P : Params) : Obj := cob "rounds_at" 827 828 829 335 5 (.ref 430) (.ref 431) .none (.ref 432) (.ref 433) (.ref 434) 837 838
noncomputable def ko436 (P : Params) : Obj := fob "rounds_at" (top 75) (.type "function") none .none .none (.str "earlyscribe.rounds" 732) none (.ref 435) .none #[]
noncomputable def ko440 (P : Params) : Obj := cob "rounds_apart" 840 841 842 343 1 (.ref 437) (.ref 438) .none .none .none (.ref 439) 843 844
noncomputable def ko441 (P : Params) : Obj := fob "rounds_apart" (top 76) (.type "function") none .none .none (.str "earlyscribe.rounds" 732) none (.ref 440) .none #[]
noncomputable def ko445 (P : Params) : Obj := cob "shared_and_set" 848 849 850 360 1 (.ref 442) (.ref 443) .none .none .none (.ref 444) 851 852
noncomputable def ko446 (P : Params) : Obj := fob "shared_and_set" (top 78) (.type "function") none .none .none (.str "earlyscribe.makings" 846) none (.ref 445) .none #[]
noncomputable def ko452 (P : Params) : Obj := cob "refuse_further_set" 854 855 856 363 1 (.ref 447) (.ref 448) .none (.ref 449) (.ref 450) (.ref 451) 858 859
noncomputable def ko453 (P : Params) : Obj := fob "refuse_further_set" (top 79) (.type "function") none .none .none (.str "earlyscribe.makings" 846) none (.ref 452) .none #[]
noncomputable def ko457 (P : Params) : Obj := cob "made_ends" 861 862 863 366 2 (.ref 454) (.ref 455) .none .none .none (.ref 456) 864 865
noncomputable def ko458 (P : Params) : Obj := fob "made_ends" (top 80) (.type "function") none .none .none (.str "earlyscribe.makings" 846) none (.ref 457) .none #[]
noncomputable def ko464 (P : Params) : Obj := cob "made_of" 867 868 869 374 1 (.ref 459) (.ref 460) .none (.ref 461) (.ref 462) (.ref 463) 880 881
noncomputable def ko465 (P : Params) : Obj := fob "made_of" (top 81) (.type "function") none .none .none (.str "earlyscribe.makings" 846) none (.ref 464) .none #[]
noncomputable def ko471 (P : Params) : Obj := cob "made_plain" 883 884 885 393 1 (.ref 466) (.ref 467) .none (.ref 468) (.ref 469) (.ref 470) 890 891
noncomputable def ko472 (P : Params) : Obj := fob "made_plain" (top 82) (.type "function") none .none .none (.str "earlyscribe.makings" 846) none (.ref 471) .none #[]
noncomputable def ko476 (P : Params) : Obj := cob "starts_by_goal" 897 898 899 406 1 (.ref 473) (.ref 474) .none .none .none (.ref 475) 900 901
noncomputable def ko477 (P : Params) : Obj := fob "starts_by_goal" (top 85) (.type "function") none .none .none (.str "earlyscribe.passes" 893) none (.ref 476) .none #[]
noncomputable def ko483 (P : Params) : Obj := cob "rooms_ahead" 903 904 905 411 3 (.ref 478) (.ref 479) .none (.ref 480) (.ref 481) (.ref 482) 912 913
noncomputable def ko484 (P : Params) : Obj := fob "rooms_ahead" (top 86) (.type "function") none .none .none (.str "earlyscribe.passes" 893) none (.ref 483) .none #[]
noncomputable def ko488 (P : Params) : Obj := cob "rooms_with_ends" 915 916 917 417 1 (.ref 485) (.ref 486) .none .none .none (.ref 487) 918 919
noncomputable def ko489 (P : Params) : Obj := fob "rooms_with_ends" (top 87) (.type "function") none .none .none (.str "earlyscribe.passes" 893) none (.ref 488) .none #[]
noncomputable def ko495 (P : Params) : Obj := cob "first_mark" 921 922 923 419 2 (.ref 490) (.ref 491) .none (.ref 492) (.ref 493) (.ref 494) 928 929
noncomputable def ko496 (P : Params) : Obj := fob "first_mark" (top 88) (.type "function") none .none .none (.str "earlyscribe.passes" 893) none (.ref 495) .none #[]
noncomputable def ko500 (P : Params) : Obj := cob "letters_for" 931 932 933 424 2 (.ref 497) (.ref 498) .none .none .none (.ref 499) 934 935
noncomputable def ko501 (P : Params) : Obj := fob "letters_for" (top 89) (.type "function") none .none .none (.str "earlyscribe.passes" 893) none (.ref 500) .none #[]
noncomputable def ko507 (P : Params) : Obj := cob "sets_and_moves" 937 938 939 429 1 (.ref 502) (.ref 503) .none (.ref 504) (.ref 505) (.ref 506) 947 948
noncomputable def ko508 (P : Params) : Obj := fob "sets_and_moves" (top 90) (.type "function") none .none .none (.str "earlyscribe.passes" 893) none (.ref 507) .none #[]
noncomputable def ko512 (P : Params) : Obj := cob "back_of" 950 951 952 446 4 (.ref 509) (.ref 510) .none .none .none (.ref 511) 953 954
noncomputable def ko513 (P : Params) : Obj := fob "back_of" (top 91) (.type "function") none .none .none (.str "earlyscribe.passes" 893) none (.ref 512) .none #[]
noncomputable def ko519 (P : Params) : Obj := cob "steps_from_first" 956 957 958 453 3 (.ref 514) (.ref 515) .none (.ref 516) (.ref 517) (.ref 518) 967 968
noncomputable def ko520 (P : Params) : Obj := fob "steps_from_first" (top 92) (.type "function") none .none .none (.str "earlyscribe.passes" 893) none (.ref 519) .none #[]
noncomputable def ko526 (P : Params) : Obj := cob "steps_in_two" 970 971 972 461 3 (.ref 521) (.ref 522) .none (.ref 523) (.ref 524) (.ref 525) 980 981
noncomputable def ko527 (P : Params) : Obj := fob "steps_in_two" (top 93) (.type "function") none .none .none (.str "earlyscribe.passes" 893) none (.ref 526) .none #[]
noncomputable def ko533 (P : Params) : Obj := cob "unlike_steps" 983 984 985 469 1 (.ref 528) (.ref 529) .none (.ref 530) (.ref 531) (.ref 532) 989 990
noncomputable def ko534 (P : Params) : Obj := fob "unlike_steps" (top 94) (.type "function") none .none .none (.str "earlyscribe.passes" 893) none (.ref 533) .none #[]
noncomputable def ko540 (P : Params) : Obj := cob "all_forth_steps" 992 993 994 474 3 (.ref 535) (.ref 536) .none (.ref 537) (.ref 538) (.ref 539) 1001 1002
noncomputable def ko541 (P : Params) : Obj := fob "all_forth_steps" (top 95) (.type "function") none .none .none (.str "earlyscribe.passes" 893) none (.ref 540) .none #[]
noncomputable def ko545 (P : Params) : Obj := cob "forth_of" 1004 1005 1006 482 3 (.ref 542) (.ref 543) .none .none .none (.ref 544) 1007 1008
noncomputable def ko546 (P : Params) : Obj := fob "forth_of" (top 96) (.type "function") none .none .none (.str "earlyscribe.passes" 893) none (.ref 545) .none #[]
noncomputable def ko552 (P : Params) : Obj := cob "two_passes" 1010 1011 1012 493 1 (.ref 547) (.ref 548) .none (.ref 549) (.ref 550) (.ref 551) 1018 1019
noncomputable def ko553 (P : Params) : Obj := fob "two_passes" (top 97) (.type "function") none .none .none (.str "earlyscribe.passes" 893) none (.ref 552) .none #[]
noncomputable def ko559 (P : Params) : Obj := cob "_law_cell_at" 1023 1024 1025 505 2 (.ref 554) (.ref 555) .none (.ref 556) (.ref 557) (.ref 558) 1028 1029
noncomputable def ko560 (P : Params) : Obj := fob "_law_cell_at" (top 99) (.type "function") none .none .none (.str "law_earlyscribe_k84_rooms_above_eight" 1021) none (.ref 559) .none #[]
noncomputable def ko566 (P : Params) : Obj := cob "_law_mixed" 1031 1032 1033 509 2 (.ref 561) (.ref 562) .none (.ref 563) (.ref 564) (.ref 565) 1037 1038
noncomputable def ko567 (P : Params) : Obj := fob "_law_mixed" (top 100) (.type "function") none .none .none (.str "law_earlyscribe_k84_rooms_above_eight" 1021) none (.ref 566) .none #[]
noncomputable def ko573 (P : Params) : Obj := cob "_law_copy" 1040 1041 1042 513 1 (.ref 568) (.ref 569) .none (.ref 570) (.ref 571) (.ref 572) 1044 1045
noncomputable def ko574 (P : Params) : Obj := fob "_law_copy" (top 101) (.type "function") none .none .none (.str "law_earlyscribe_k84_rooms_above_eight" 1021) none (.ref 573) .none #[]
noncomputable def ko578 (P : Params) : Obj := cob "_law_alone" 1047 1048 1049 515 1 (.ref 575) (.ref 576) .none .none .none (.ref 577) 1050 1051
noncomputable def ko579 (P : Params) : Obj := fob "_law_alone" (top 102) (.type "function") none .none .none (.str "law_earlyscribe_k84_rooms_above_eight" 1021) none (.ref 578) .none #[]
noncomputable def ko585 (P : Params) : Obj := cob "law" 1053 1054 1055 522 1 (.ref 580) (.ref 581) .none (.ref 582) (.ref 583) (.ref 584) 1070 1071
noncomputable def ko586 (P : Params) : Obj := fob "law" (top 103) (.type "function") none .none .none (.str "law_earlyscribe_k84_rooms_above_eight" 1021) none (.ref 585) .none #[]
noncomputable def K (P : Params) : Frag := (nat_lit 2, ko2 P) :: (nat_lit 3, ko3 P) :: (nat_lit 23, ko23 P) :: (nat_lit 24, ko24 P) :: (nat_lit 36, ko36 P) :: (nat_lit 37, ko37 P) :: (nat_lit 48, ko48 P) :: (nat_lit 49, ko49 P) :: (nat_lit 60, ko60 P) :: (nat_lit 61, ko61 P) :: (nat_lit 72, ko72 P) :: (nat_lit 73, ko73 P) :: (nat_lit 84, ko84 P) :: (nat_lit 85, ko85 P) :: (nat_lit 103, ko103 P) :: (nat_lit 104, ko104 P) :: (nat_lit 122, ko122 P) :: (nat_lit 123, ko123 P) :: (nat_lit 134, ko134 P) :: (nat_lit 135, ko135 P) :: (nat_lit 143, ko143 P) :: (nat_lit 144, ko144 P) :: (nat_lit 150, ko150 P) :: (nat_lit 151, ko151 P) :: (nat_lit 157, ko157 P) :: (nat_lit 158, ko158 P) :: (nat_lit 164, ko164 P) :: (nat_lit 165, ko165 P) :: (nat_lit 171, ko171 P) :: (nat_lit 172, ko172 P) :: (nat_lit 178, ko178 P) :: (nat_lit 179, ko179 P) :: (nat_lit 185, ko185 P) :: (nat_lit 186, ko186 P) :: (nat_lit 192, ko192 P) :: (nat_lit 193, ko193 P) :: (nat_lit 199, ko199 P) :: (nat_lit 200, ko200 P) :: (nat_lit 204, ko204 P) :: (nat_lit 205, ko205 P) :: (nat_lit 209, ko209 P) :: (nat_lit 210, ko210 P) :: (nat_lit 214, ko214 P) :: (nat_lit 215, ko215 P) :: (nat_lit 221, ko221 P) :: (nat_lit 222, ko222 P) :: (nat_lit 228, ko228 P) :: (nat_lit 229, ko229 P) :: (nat_lit 235, ko235 P) :: (nat_lit 236, ko236 P) :: (nat_lit 240, ko240 P) :: (nat_lit 241, ko241 P) :: (nat_lit 245, ko245 P) :: (nat_lit 246, ko246 P) :: (nat_lit 252, ko252 P) :: (nat_lit 253, ko253 P) :: (nat_lit 259, ko259 P) :: (nat_lit 260, ko260 P) :: (nat_lit 266, ko266 P) :: (nat_lit 267, ko267 P) :: (nat_lit 273, ko273 P) :: (nat_lit 274, ko274 P) :: (nat_lit 280, ko280 P) :: (nat_lit 281, ko281 P) :: (nat_lit 287, ko287 P) :: (nat_lit 288, ko288 P) :: (nat_lit 294, ko294 P) :: (nat_lit 295, ko295 P) :: (nat_lit 301, ko301 P) :: (nat_lit 302, ko302 P) :: (nat_lit 308, ko308 P) :: (nat_lit 309, ko309 P) :: (nat_lit 315, ko315 P) :: (nat_lit 316, ko316 P) :: (nat_lit 322, ko322 P) :: (nat_lit 323, ko323 P) :: (nat_lit 327, ko327 P) :: (nat_lit 328, ko328 P) :: (nat_lit 334, ko334 P) :: (nat_lit 335, ko335 P) :: (nat_lit 341, ko341 P) :: (nat_lit 342, ko342 P) :: (nat_lit 348, ko348 P) :: (nat_lit 349, ko349 P) :: (nat_lit 355, ko355 P) :: (nat_lit 356, ko356 P) :: (nat_lit 362, ko362 P) :: (nat_lit 363, ko363 P) :: (nat_lit 367, ko367 P) :: (nat_lit 368, ko368 P) :: (nat_lit 372, ko372 P) :: (nat_lit 373, ko373 P) :: (nat_lit 378, ko378 P) :: (nat_lit 379, ko379 P) :: (nat_lit 383, ko383 P) :: (nat_lit 384, ko384 P) :: (nat_lit 390, ko390 P) :: (nat_lit 391, ko391 P) :: (nat_lit 397, ko397 P) :: (nat_lit 398, ko398 P) :: (nat_lit 402, ko402 P) :: (nat_lit 403, ko403 P) :: (nat_lit 409, ko409 P) :: (nat_lit 410, ko410 P) :: (nat_lit 416, ko416 P) :: (nat_lit 417, ko417 P) :: (nat_lit 423, ko423 P) :: (nat_lit 424, ko424 P) :: (nat_lit 428, ko428 P) :: (nat_lit 429, ko429 P) :: (nat_lit 435, ko435 P) :: (nat_lit 436, ko436 P) :: (nat_lit 440, ko440 P) :: (nat_lit 441, ko441 P) :: (nat_lit 445, ko445 P) :: (nat_lit 446, ko446 P) :: (nat_lit 452, ko452 P) :: (nat_lit 453, ko453 P) :: (nat_lit 457, ko457 P) :: (nat_lit 458, ko458 P) :: (nat_lit 464, ko464 P) :: (nat_lit 465, ko465 P) :: (nat_lit 471, ko471 P) :: (nat_lit 472, ko472 P) :: (nat_lit 476, ko476 P) :: (nat_lit 477, ko477 P) :: (nat_lit 483, ko483 P) :: (nat_lit 484, ko484 P) :: (nat_lit 488, ko488 P) :: (nat_lit 489, ko489 P) :: (nat_lit 495, ko495 P) :: (nat_lit 496, ko496 P) :: (nat_lit 500, ko500 P) :: (nat_lit 501, ko501 P) :: (nat_lit 507, ko507 P) :: (nat_lit 508, ko508 P) :: (nat_lit 512, ko512 P) :: (nat_lit 513, ko513 P) :: (nat_lit 519, ko519 P) :: (nat_lit 520, ko520 P) :: (nat_lit 526, ko526 P) :: (nat_lit 527, ko527 P) :: (nat_lit 533, ko533 P) :: (nat_lit 534, ko534 P) :: (nat_lit 540, ko540 P) :: (nat_lit 541, ko541 P) :: (nat_lit 545, ko545 P) :: (nat_lit 546, ko546 P) :: (nat_lit 552, ko552 P) :: (nat_lit 553, ko553 P) :: (nat_lit 559, ko559 P) :: (nat_lit 560, ko560 P) :: (nat_lit 566, ko566 P) :: (nat_lit 567, ko567 P) :: (nat_lit 573, ko573 P) :: (nat_lit 574, ko574 P) :: (nat_lit 578, ko578 P) :: (nat_lit 579, ko579 P) :: (nat_lit 585, ko585 P) :: (nat_lit 586, ko586 P) :: []
def as : List Addr := [2, 3, 23, 24, 36, 37, 48, 49, 60, 61, 72, 73, 84, 85, 103, 104, 122, 123, 134, 135, 143, 144, 150, 151, 157, 158, 164, 165, 171, 172, 178, 179, 185, 186, 192, 193, 199, 200, 204, 205, 209, 210, 214, 215, 221, 222, 228, 229, 235, 236, 240, 241, 245, 246, 252, 253, 259, 260, 266, 267, 273, 274, 280, 281, 287, 288, 294, 295, 301, 302, 308, 309, 315, 316, 322, 323, 327, 328, 334, 335, 341, 342, 348, 349, 355, 356, 362, 363, 367, 368, 372, 373, 378, 379, 383, 384, 390, 391, 397, 398, 402, 403, 409, 410, 416, 417, 423, 424, 428, 429, 435, 436, 440, 441, 445, 446, 452, 453, 457, 458, 464, 465, 471, 472, 476, 477, 483, 484, 488, 489, 495, 496, 500, 501, 507, 508, 512, 513, 519, 520, 526, 527, 533, 534, 540, 541, 545, 546, 552, 553, 559, 560, 566, 567, 573, 574, 578, 579, 585, 586]
end My
lay_quick My.K
namespace My
open PySem PySem.W PyProof.Rows L2 L3
noncomputable def q : Program := view PySem.Challenge.pw_earlyscribe_k84_rooms_above_eight [1, 2, 3, 4, 5, 6, 7, 8, 9, 11, 12, 13, 14, 15, 16, 17, 18, 19, 20, 21, 23, 24, 25, 26, 27, 28, 29, 30, 31, 32, 33, 35, 36, 37, 38, 39, 40, 41, 42, 43, 44, 45, 46, 47, 48, 49, 50, 51, 52, 53, 54, 56, 57, 58, 60, 61, 62, 64, 65, 66, 67, 68, 69, 70, 71, 72, 73, 74, 75, 76, 78, 79, 80, 81, 82, 84, 85, 86, 87, 88, 89, 90, 91, 92, 93, 94, 95, 96, 97, 99, 100, 101, 102, 103]
noncomputable def env : Env := { scope := PySem.Challenge.pw_earlyscribe_k84_rooms_above_eight.main.scope, locals := mainNs, globals := mainNs, cells := [], code := (.ref 13), frame := some 14 }
theorem size (w : World) : ((boot_heap w.params).isNs mainGlobals && (Array.mk ([] : List GenState)).size == 0, (boot_heap w.params).objs.size, (boot_heap w.params).nsMap mainGlobals "__annotations__") = (true, 11, (some (.ref 6))) := by
  rw [PySem.W.Fast.te8920871248978507458]
  kernel_rfl
noncomputable def m1o3 (P : Params) : Obj := ⟨(.type "dict"), none, (.dict #[de P "__name__" 165 (.str "earlyscribe.errors" 187), de P "__doc__" 166 .none, de P "__package__" 167 .none, de P "__loader__" 168 (.builtin "__main__.__loader__#opaque"), de P "__spec__" 169 .none, de P "__annotations__" 170 (.ref 6), de P "__builtins__" 171 (.ref 4), de P "__file__" 173 (.str "/claim/cut.py" 172), de P "__cached__" 174 .none, de P "ScribeError" 206 (.ref 24), de P "NoWay" 222 (.ref 37), de P "NoRoom" 238 (.ref 49), de P "NotPlain" 254 (.ref 61), de P "OtherSigns" 270 (.ref 73), de P "TooMany" 286 (.ref 85), de P "TwoWays" 311 (.ref 104)] 16), #[]⟩
noncomputable def m1o11 (P : Params) : Obj := ⟨(.type "tuple"), none, (.seq #[] 0), #[]⟩
noncomputable def m1o12 (P : Params) : Obj := ⟨.none, none, (.fields #[(.int 2 0), (.int 0 0), (.ref 20), (.int 4 0), (.int 0 0), (.ref 33), (.int 6 0), (.int 0 0), (.ref 45), (.int 8 0), (.int 0 0), (.ref 57), (.int 10 0), (.int 0 0), (.ref 69), (.int 12 0), (.int 0 0), (.ref 81), (.int 14 0), (.int 0 0), (.ref 93)]), #[]⟩
noncomputable def m1o13 (P : Params) : Obj := ⟨(.type "code"), none, (.fields #[(.str "<module>" 182), (.str "<module>" 183), (.str "/claim/cut.py" 184), (.int 1 0), (.int 0 0), (.int 0 0), (.int 0 0), (.int 0 0), (.ref 11), (.bool false), (.int 181 0), (.ref 12), .none, .none, .none, .none, (.int 185 0), (.int 1 0), (.str "/claim/cut.py" 186)]), #[]⟩
noncomputable def m1o14 (P : Params) : Obj := ⟨(.type "frame"), none, .plain, #[(some (.ref 13)), (some (.ref 3)), (some (.ref 3)), none, (some (.str "__main__" 164)), none, (some (.ref 0))]⟩
noncomputable def m1o15 (P : Params) : Obj := ⟨(.type "tuple"), none, (.seq #[(.type "ValueError")] 0), #[]⟩
noncomputable def m1o16 (P : Params) : Obj := ⟨(.type "builtin_function_or_method"), none, (.fields #[(.builtin "type.__prepare__"), (.type "type")]), #[]⟩
noncomputable def m1o17 (P : Params) : Obj := ⟨(.type "dict"), none, (.dict #[de P "__module__" 196 (.str "earlyscribe.errors" 187), de P "__qualname__" 198 (.str "ScribeError" 197), de P "__firstlineno__" 200 (.int 2 199), de P "__static_attributes__" 201 (.ref 22)] 4), #[]⟩
noncomputable def m1o19 (P : Params) : Obj := ⟨.none, none, (.fields #[]), #[]⟩
noncomputable def m1o20 (P : Params) : Obj := ⟨(.type "code"), none, (.fields #[(.str "ScribeError" 191), (.str "ScribeError" 192), (.str "/claim/cut.py" 193), (.int 2 0), (.int 0 0), (.int 0 0), (.int 0 0), (.int 0 0), (.ref 18), (.bool false), (.int 181 0), (.ref 19), .none, .none, .none, .none, (.int 194 0), (.int 2 0), (.str "/claim/cut.py" 195)]), #[]⟩
noncomputable def m1o21 (P : Params) : Obj := ⟨(.type "frame"), none, .plain, #[(some (.ref 20)), (some (.ref 3)), (some (.ref 17)), none, (some (.str "earlyscribe.errors" 187)), none, (some (.ref 0))]⟩
noncomputable def m1o24 (P : Params) : Obj := ⟨(.type "type"), none, (.cls ⟨"ScribeError", [(.type "ValueError")], [(.ref 24), (.type "ValueError"), (.type "Exception"), (.type "BaseException"), (.type "object")], 23, "ScribeError", true, [], [(.ref 37), (.ref 49), (.ref 61), (.ref 73), (.ref 85), (.ref 104)], false, none, false⟩), #[(some (.ref 15)), none, (some (.str "ScribeError" 189)), (some (.str "ScribeError" 197)), (some (.builtin "ValueError.__new__")), (some (.bool true))]⟩
noncomputable def m1o25 (P : Params) : Obj := ⟨(.type "getset_descriptor"), none, (.fields #[(.str "__weakref__" 202), (.ref 24), (.builtin "ExceptionGroup.__weakref__"), .none]), #[]⟩
noncomputable def m1o26 (P : Params) : Obj := ⟨(.type "super"), none, (.fields #[(.ref 24), (.ref 24), (.ref 24)]), #[]⟩
noncomputable def m1o27 (P : Params) : Obj := ⟨(.type "builtin_function_or_method"), none, (.fields #[(.builtin "object.__init_subclass__"), (.ref 24)]), #[]⟩
noncomputable def m1o28 (P : Params) : Obj := ⟨(.type "tuple"), none, (.seq #[(.ref 24)] 0), #[]⟩
noncomputable def m1o30 (P : Params) : Obj := ⟨(.type "dict"), none, (.dict #[de P "__module__" 214 (.str "earlyscribe.errors" 187), de P "__qualname__" 216 (.str "NoWay" 215), de P "__firstlineno__" 218 (.int 4 217), de P "__static_attributes__" 219 (.ref 35)] 4), #[]⟩
noncomputable def m1o33 (P : Params) : Obj := ⟨(.type "code"), none, (.fields #[(.str "NoWay" 209), (.str "NoWay" 210), (.str "/claim/cut.py" 211), (.int 4 0), (.int 0 0), (.int 0 0), (.int 0 0), (.int 0 0), (.ref 31), (.bool false), (.int 181 0), (.ref 32), .none, .none, .none, .none, (.int 212 0), (.int 4 0), (.str "/claim/cut.py" 213)]), #[]⟩
noncomputable def m1o34 (P : Params) : Obj := ⟨(.type "frame"), none, .plain, #[(some (.ref 33)), (some (.ref 3)), (some (.ref 30)), none, (some (.str "earlyscribe.errors" 187)), none, (some (.ref 0))]⟩
noncomputable def m1o38 (P : Params) : Obj := ⟨(.type "super"), none, (.fields #[(.ref 37), (.ref 37), (.ref 37)]), #[]⟩
noncomputable def m1o39 (P : Params) : Obj := ⟨(.type "builtin_function_or_method"), none, (.fields #[(.builtin "object.__init_subclass__"), (.ref 37)]), #[]⟩
noncomputable def m1o42 (P : Params) : Obj := ⟨(.type "dict"), none, (.dict #[de P "__module__" 230 (.str "earlyscribe.errors" 187), de P "__qualname__" 232 (.str "NoRoom" 231), de P "__firstlineno__" 234 (.int 6 233), de P "__static_attributes__" 235 (.ref 47)] 4), #[]⟩
noncomputable def m1o45 (P : Params) : Obj := ⟨(.type "code"), none, (.fields #[(.str "NoRoom" 225), (.str "NoRoom" 226), (.str "/claim/cut.py" 227), (.int 6 0), (.int 0 0), (.int 0 0), (.int 0 0), (.int 0 0), (.ref 43), (.bool false), (.int 181 0), (.ref 44), .none, .none, .none, .none, (.int 228 0), (.int 6 0), (.str "/claim/cut.py" 229)]), #[]⟩
noncomputable def m1o46 (P : Params) : Obj := ⟨(.type "frame"), none, .plain, #[(some (.ref 45)), (some (.ref 3)), (some (.ref 42)), none, (some (.str "earlyscribe.errors" 187)), none, (some (.ref 0))]⟩
noncomputable def m1o50 (P : Params) : Obj := ⟨(.type "super"), none, (.fields #[(.ref 49), (.ref 49), (.ref 49)]), #[]⟩
noncomputable def m1o51 (P : Params) : Obj := ⟨(.type "builtin_function_or_method"), none, (.fields #[(.builtin "object.__init_subclass__"), (.ref 49)]), #[]⟩
noncomputable def m1o54 (P : Params) : Obj := ⟨(.type "dict"), none, (.dict #[de P "__module__" 246 (.str "earlyscribe.errors" 187), de P "__qualname__" 248 (.str "NotPlain" 247), de P "__firstlineno__" 250 (.int 8 249), de P "__static_attributes__" 251 (.ref 59)] 4), #[]⟩
noncomputable def m1o57 (P : Params) : Obj := ⟨(.type "code"), none, (.fields #[(.str "NotPlain" 241), (.str "NotPlain" 242), (.str "/claim/cut.py" 243), (.int 8 0), (.int 0 0), (.int 0 0), (.int 0 0), (.int 0 0), (.ref 55), (.bool false), (.int 181 0), (.ref 56), .none, .none, .none, .none, (.int 244 0), (.int 8 0), (.str "/claim/cut.py" 245)]), #[]⟩
noncomputable def m1o58 (P : Params) : Obj := ⟨(.type "frame"), none, .plain, #[(some (.ref 57)), (some (.ref 3)), (some (.ref 54)), none, (some (.str "earlyscribe.errors" 187)), none, (some (.ref 0))]⟩
noncomputable def m1o62 (P : Params) : Obj := ⟨(.type "super"), none, (.fields #[(.ref 61), (.ref 61), (.ref 61)]), #[]⟩
noncomputable def m1o63 (P : Params) : Obj := ⟨(.type "builtin_function_or_method"), none, (.fields #[(.builtin "object.__init_subclass__"), (.ref 61)]), #[]⟩
noncomputable def m1o66 (P : Params) : Obj := ⟨(.type "dict"), none, (.dict #[de P "__module__" 262 (.str "earlyscribe.errors" 187), de P "__qualname__" 264 (.str "OtherSigns" 263), de P "__firstlineno__" 266 (.int 10 265), de P "__static_attributes__" 267 (.ref 71)] 4), #[]⟩
noncomputable def m1o69 (P : Params) : Obj := ⟨(.type "code"), none, (.fields #[(.str "OtherSigns" 257), (.str "OtherSigns" 258), (.str "/claim/cut.py" 259), (.int 10 0), (.int 0 0), (.int 0 0), (.int 0 0), (.int 0 0), (.ref 67), (.bool false), (.int 181 0), (.ref 68), .none, .none, .none, .none, (.int 260 0), (.int 10 0), (.str "/claim/cut.py" 261)]), #[]⟩
noncomputable def m1o70 (P : Params) : Obj := ⟨(.type "frame"), none, .plain, #[(some (.ref 69)), (some (.ref 3)), (some (.ref 66)), none, (some (.str "earlyscribe.errors" 187)), none, (some (.ref 0))]⟩
noncomputable def m1o74 (P : Params) : Obj := ⟨(.type "super"), none, (.fields #[(.ref 73), (.ref 73), (.ref 73)]), #[]⟩
noncomputable def m1o75 (P : Params) : Obj := ⟨(.type "builtin_function_or_method"), none, (.fields #[(.builtin "object.__init_subclass__"), (.ref 73)]), #[]⟩
noncomputable def m1o78 (P : Params) : Obj := ⟨(.type "dict"), none, (.dict #[de P "__module__" 278 (.str "earlyscribe.errors" 187), de P "__qualname__" 280 (.str "TooMany" 279), de P "__firstlineno__" 282 (.int 12 281), de P "__static_attributes__" 283 (.ref 83)] 4), #[]⟩
noncomputable def m1o81 (P : Params) : Obj := ⟨(.type "code"), none, (.fields #[(.str "TooMany" 273), (.str "TooMany" 274), (.str "/claim/cut.py" 275), (.int 12 0), (.int 0 0), (.int 0 0), (.int 0 0), (.int 0 0), (.ref 79), (.bool false), (.int 181 0), (.ref 80), .none, .none, .none, .none, (.int 276 0), (.int 12 0), (.str "/claim/cut.py" 277)]), #[]⟩
noncomputable def m1o82 (P : Params) : Obj := ⟨(.type "frame"), none, .plain, #[(some (.ref 81)), (some (.ref 3)), (some (.ref 78)), none, (some (.str "earlyscribe.errors" 187)), none, (some (.ref 0))]⟩
noncomputable def m1o86 (P : Params) : Obj := ⟨(.type "super"), none, (.fields #[(.ref 85), (.ref 85), (.ref 85)]), #[]⟩
noncomputable def m1o87 (P : Params) : Obj := ⟨(.type "builtin_function_or_method"), none, (.fields #[(.builtin "object.__init_subclass__"), (.ref 85)]), #[]⟩
noncomputable def m1o90 (P : Params) : Obj := ⟨(.type "dict"), none, (.dict #[de P "__module__" 294 (.str "earlyscribe.errors" 187), de P "__qualname__" 296 (.str "TwoWays" 295), de P "__firstlineno__" 298 (.int 14 297), de P "__init__" 306 (.ref 101), de P "__static_attributes__" 308 (.ref 102)] 5), #[]⟩
noncomputable def m1o92 (P : Params) : Obj := ⟨.none, none, (.fields #[(.int 16 0), (.int 4 0), (.ref 100)]), #[]⟩
noncomputable def m1o93 (P : Params) : Obj := ⟨(.type "code"), none, (.fields #[(.str "TwoWays" 289), (.str "TwoWays" 290), (.str "/claim/cut.py" 291), (.int 14 0), (.int 0 0), (.int 0 0), (.int 0 0), (.int 0 0), (.ref 91), (.bool false), (.int 181 0), (.ref 92), .none, .none, .none, .none, (.int 292 0), (.int 14 0), (.str "/claim/cut.py" 293)]), #[]⟩
noncomputable def m1o94 (P : Params) : Obj := ⟨(.type "frame"), none, .plain, #[(some (.ref 93)), (some (.ref 3)), (some (.ref 90)), none, (some (.str "earlyscribe.errors" 187)), none, (some (.ref 0))]⟩
noncomputable def m1o97 (P : Params) : Obj := ⟨(.type "tuple"), none, (.seq #[(.str "self" 302), (.str "ways" 303)] 0), #[]⟩
noncomputable def m1o99 (P : Params) : Obj := ⟨.none, none, (.func (.mk "__init__" "TwoWays.__init__" (.mk [] [(.mk "self" none (.mk 16 17 16 21)), (.mk "ways" none (.mk 16 23 16 27))] none [] [] none []) (.stmts [(.Expr (.Call (.Attribute (.Name "ScribeError" (.mk 17 8 17 19)) "__init__" (.mk 17 8 17 28)) [(.Name "self" (.mk 17 29 17 33)), (.Name "ways" (.mk 17 35 17 39))] [] (.mk 17 8 17 40)) (.mk 17 8 17 40)), (.Assign [(.Attribute (.Name "self" (.mk 18 8 18 12)) "ways" (.mk 18 8 18 17))] (.Name "ways" (.mk 18 20 18 24)) (.mk 18 8 18 24))]) (.mk .function [("self", .local), ("ways", .local), ("ScribeError", .globalImplicit)] false false []) 0 [] .none .none .none .none none .none .none 0)), #[]⟩
noncomputable def m1o100 (P : Params) : Obj := ⟨(.type "code"), none, (.fields #[(.str "__init__" 299), (.str "TwoWays.__init__" 300), (.str "/claim/cut.py" 301), (.int 16 0), (.int 2 0), (.int 0 0), (.int 0 0), (.int 3 0), (.ref 95), (.bool true), (.int 181 0), (.ref 96), .none, (.ref 97), (.ref 98), (.ref 99), (.int 304 0), (.int 16 0), (.str "/claim/cut.py" 305)]), #[]⟩
noncomputable def m1o101 (P : Params) : Obj := ⟨(.type "function"), none, (.func (.mk "__init__" "TwoWays.__init__" (.mk [] [(.mk "self" none (.mk 16 17 16 21)), (.mk "ways" none (.mk 16 23 16 27))] none [] [] none []) (.stmts [(.Expr (.Call (.Attribute (.Name "ScribeError" (.mk 17 8 17 19)) "__init__" (.mk 17 8 17 28)) [(.Name "self" (.mk 17 29 17 33)), (.Name "ways" (.mk 17 35 17 39))] [] (.mk 17 8 17 40)) (.mk 17 8 17 40)), (.Assign [(.Attribute (.Name "self" (.mk 18 8 18 12)) "ways" (.mk 18 8 18 17))] (.Name "ways" (.mk 18 20 18 24)) (.mk 18 8 18 24))]) (.mk .function [("self", .local), ("ways", .local), ("ScribeError", .globalImplicit)] false false []) 3 [] .none .none .none (.str "earlyscribe.errors" 187) none (.ref 100) .none 0)), #[]⟩
noncomputable def m1o102 (P : Params) : Obj := ⟨(.type "tuple"), none, (.seq #[(.str "ways" 307)] 0), #[]⟩
noncomputable def m1o105 (P : Params) : Obj := ⟨(.type "super"), none, (.fields #[(.ref 104), (.ref 104), (.ref 104)]), #[]⟩
noncomputable def m1o106 (P : Params) : Obj := ⟨(.type "builtin_function_or_method"), none, (.fields #[(.builtin "object.__init_subclass__"), (.ref 104)]), #[]⟩
noncomputable def m1t7 (P : Params) : BT := BT.node (boot_o_7 P) (BT.node (m1o15 P) (BT.node (m1o11 P) (BT.node (m1o63 P) .nil .nil) (BT.node (m1o11 P) .nil .nil)) (BT.node (m1o11 P) (BT.node (m1o11 P) .nil .nil) .nil)) (BT.node (ko23 P) (BT.node (m1o39 P) (BT.node (m1o11 P) .nil .nil) (BT.node (ko103 P) .nil .nil)) (BT.node (m1o11 P) (BT.node (m1o87 P) .nil .nil) .nil))
noncomputable def m1t11 (P : Params) : BT := BT.node (m1o11 P) (BT.node (m1o19 P) (BT.node (m1o11 P) (BT.node (m1o11 P) .nil .nil) (BT.node (m1o99 P) .nil .nil)) (BT.node (m1o51 P) (BT.node (m1o11 P) .nil .nil) .nil)) (BT.node (m1o27 P) (BT.node (m1o11 P) (BT.node (m1o75 P) .nil .nil) .nil) (BT.node (m1o11 P) (BT.node (m1o11 P) .nil .nil) .nil))
noncomputable def m1t9 (P : Params) : BT := BT.node (boot_o_9 P) (BT.node (m1o17 P) (BT.node (m1o33 P) (BT.node (m1o16 P) .nil .nil) (BT.node (m1o97 P) .nil .nil)) (BT.node (ko49 P) (BT.node (m1o81 P) .nil .nil) .nil)) (BT.node (m1o25 P) (BT.node (m1o16 P) (BT.node (ko73 P) .nil .nil) (BT.node (m1o105 P) .nil .nil)) (BT.node (m1o57 P) (BT.node (m1o16 P) .nil .nil) .nil))
noncomputable def m1t13 (P : Params) : BT := BT.node (m1o13 P) (BT.node (m1o21 P) (BT.node (ko37 P) (BT.node (m1o69 P) .nil .nil) (BT.node (m1o101 P) .nil .nil)) (BT.node (m1o16 P) (BT.node (ko85 P) .nil .nil) .nil)) (BT.node (m1o16 P) (BT.node (m1o45 P) (BT.node (m1o16 P) .nil .nil) .nil) (BT.node (ko61 P) (BT.node (m1o93 P) .nil .nil) .nil))
noncomputable def m1t8 (P : Params) : BT := BT.node (boot_o_8 P) (BT.node (m1o16 P) (BT.node (m1o19 P) (BT.node (m1o28 P) .nil .nil) (BT.node (m1o19 P) .nil .nil)) (BT.node (ko48 P) (BT.node (m1o19 P) .nil .nil) .nil)) (BT.node (m1o24 P) (BT.node (m1o28 P) (BT.node (ko72 P) .nil .nil) (BT.node (ko104 P) .nil .nil)) (BT.node (m1o19 P) (BT.node (m1o28 P) .nil .nil) .nil))
noncomputable def m1t12 (P : Params) : BT := BT.node (m1o12 P) (BT.node (m1o20 P) (BT.node (ko36 P) (BT.node (m1o19 P) .nil .nil) (BT.node (m1o100 P) .nil .nil)) (BT.node (m1o28 P) (BT.node (ko84 P) .nil .nil) .nil)) (BT.node (m1o28 P) (BT.node (m1o19 P) (BT.node (m1o28 P) .nil .nil) .nil) (BT.node (ko60 P) (BT.node (m1o92 P) .nil .nil) .nil))
noncomputable def m1t10 (P : Params) : BT := BT.node (boot_o_10 P) (BT.node (m1o11 P) (BT.node (m1o34 P) (BT.node (m1o66 P) .nil .nil) (BT.node (m1o11 P) .nil .nil)) (BT.node (m1o50 P) (BT.node (m1o82 P) .nil .nil) .nil)) (BT.node (m1o26 P) (BT.node (m1o42 P) (BT.node (m1o74 P) .nil .nil) (BT.node (m1o106 P) .nil .nil)) (BT.node (m1o58 P) (BT.node (m1o90 P) .nil .nil) .nil))
noncomputable def m1t14 (P : Params) : BT := BT.node (m1o14 P) (BT.node (m1o11 P) (BT.node (m1o38 P) (BT.node (m1o70 P) .nil .nil) (BT.node (m1o102 P) .nil .nil)) (BT.node (m1o54 P) (BT.node (m1o86 P) .nil .nil) .nil)) (BT.node (m1o30 P) (BT.node (m1o46 P) (BT.node (m1o78 P) .nil .nil) .nil) (BT.node (m1o62 P) (BT.node (m1o94 P) .nil .nil) .nil))
noncomputable def m1l (P : Params) : BT := (BT.node (boot_o_0 P) (BT.node (boot_o_1 P) (BT.node (m1o3 P) (m1t7 P) (m1t11 P)) (BT.node (boot_o_5 P) (m1t9 P) (m1t13 P))) (BT.node (boot_o_2 P) (BT.node (boot_o_4 P) (m1t8 P) (m1t12 P)) (BT.node (boot_o_6 P) (m1t10 P) (m1t14 P))))
end My
lay_quick My.m1l
namespace My
open PySem PySem.W PyProof.Rows L2 L3
noncomputable def m1 (w : World) (os : OsState) : SharedT := ⟨m1l w.params, 107, (.mk [] [] [] 0 [] [] false #[] [] 0 false false false 0 [2000, 10, 10] false 0 true [] [] 0 false), Array.mk [], (.mk 0 0 0 0), 312, os⟩
theorem u1 : Hd.Upto PySem.Challenge.pw_earlyscribe_k84_rooms_above_eight env ⟨0, 0, 0, 0⟩ 11 (some (.ref 6)) 1519 8 m1 ⟨14, 0, 18, 24⟩ := by
  refine Hd.upto_first (k1 := 12) (k2 := 1) (k3 := 1506) (n₁ := 15) (p1 := ⟨0, 0, 0, 0⟩) (p2 := ⟨0, 0, 0, 0⟩) ?_
  intro w
  unfold env m1
  rw [PySem.W.Fast.te15667345088766844465, PySem.W.Fast.te14374325043358763698, PySem.W.Fast.te10110043849684766642, PySem.W.Fast.te14364793385576792824, PySem.W.Fast.te11892475500146522536, PySem.W.Fast.te2370841535385321264, PySem.W.Fast.te16960278174366946017]
  kernel_rfl
noncomputable def m2o3 (P : Params) : Obj := ⟨(.type "dict"), none, (.dict #[de P "__name__" 165 (.str "earlyscribe.choices" 501), de P "__doc__" 166 .none, de P "__package__" 167 .none, de P "__loader__" 168 (.builtin "__main__.__loader__#opaque"), de P "__spec__" 169 .none, de P "__annotations__" 170 (.ref 6), de P "__builtins__" 171 (.ref 4), de P "__file__" 173 (.str "/claim/cut.py" 172), de P "__cached__" 174 .none, de P "ScribeError" 206 (.ref 24), de P "NoWay" 222 (.ref 37), de P "NoRoom" 238 (.ref 49), de P "NotPlain" 254 (.ref 61), de P "OtherSigns" 270 (.ref 73), de P "TooMany" 286 (.ref 85), de P "TwoWays" 311 (.ref 104), de P "NeverPlain" 338 (.ref 123), de P "NoText" 354 (.ref 135), de P "SIGNS" 358 (.int 0 357), de P "ROOMS" 360 (.int 1 359), de P "BEGINS" 362 (.int 2 361), de P "STEPS" 364 (.int 3 363), de P "ENDS" 366 (.int 4 365), de P "MOST_ROOMS" 368 (.int 200 367), de P "MOST_PAIRS" 370 (.int 1000 369), de P "steps_by_start" 379 (.ref 144), de P "end_words_by_room" 389 (.ref 151), de P "refuse_many" 396 (.ref 158), de P "pairs_behind" 409 (.ref 165), de P "OUT_OF" 413 (.int 0 412), de P "INTO" 415 (.int 3 414), de P "places_at" 426 (.ref 172), de P "traces_from" 444 (.ref 179), de P "traces_from_begins" 451 (.ref 186), de P "traces_to_ends" 458 (.ref 193), de P "trail_of" 470 (.ref 200), de P "useful_rooms" 476 (.ref 205), de P "marks_kept" 482 (.ref 210), de P "steps_kept" 488 (.ref 215), de P "trimmed_of" 500 (.ref 222), de P "MOST_ROOMS_WITH_CHOICES" 504 (.int 8 503), de P "PLACES" 506 (.int 1 505), de P "WORDS" 508 (.int 2 507), de P "refuse_many_rooms" 515 (.ref 229), de P "two_of_each" 526 (.ref 236), de P "doubled_marks" 532 (.ref 241), de P "places_by_sign" 538 (.ref 246), de P "doubled_steps" 553 (.ref 253), de P "doubled_of" 563 (.ref 260), de P "behind_one_another" 571 (.ref 267), de P "words_ahead" 583 (.ref 274), de P "words_behind" 595 (.ref 281), de P "are_apart" 603 (.ref 288), de P "way_apart_by_begin" 615 (.ref 295), de P "trail_from_begin" 624 (.ref 302), de P "way_apart_by_step" 640 (.ref 309), de P "way_apart_by_end" 652 (.ref 316), de P "way_apart" 662 (.ref 323)] 58), #[]⟩
noncomputable def m2o12 (P : Params) : Obj := ⟨.none, none, (.fields #[(.int 2 0), (.int 0 0), (.ref 20), (.int 4 0), (.int 0 0), (.ref 33), (.int 6 0), (.int 0 0), (.ref 45), (.int 8 0), (.int 0 0), (.ref 57), (.int 10 0), (.int 0 0), (.ref 69), (.int 12 0), (.int 0 0), (.ref 81), (.int 14 0), (.int 0 0), (.ref 93), (.int 19 0), (.int 0 0), (.ref 112), (.int 25 0), (.int 0 0), (.ref 131), (.int 35 0), (.int 0 0), (.ref 143), (.int 40 0), (.int 0 0), (.ref 150), (.int 45 0), (.int 0 0), (.ref 157), (.int 48 0), (.int 0 0), (.ref 164), (.int 58 0), (.int 0 0), (.ref 171), (.int 63 0), (.int 0 0), (.ref 178), (.int 80 0), (.int 0 0), (.ref 185), (.int 82 0), (.int 0 0), (.ref 192), (.int 84 0), (.int 0 0), (.ref 199), (.int 91 0), (.int 0 0), (.ref 204), (.int 94 0), (.int 0 0), (.ref 209), (.int 96 0), (.int 0 0), (.ref 214), (.int 99 0), (.int 0 0), (.ref 221), (.int 111 0), (.int 0 0), (.ref 228), (.int 114 0), (.int 0 0), (.ref 235), (.int 122 0), (.int 0 0), (.ref 240), (.int 131 0), (.int 0 0), (.ref 245), (.int 136 0), (.int 0 0), (.ref 252), (.int 147 0), (.int 0 0), (.ref 259), (.int 152 0), (.int 0 0), (.ref 266), (.int 154 0), (.int 0 0), (.ref 273), (.int 163 0), (.int 0 0), (.ref 280), (.int 172 0), (.int 0 0), (.ref 287), (.int 174 0), (.int 0 0), (.ref 294), (.int 181 0), (.int 0 0), (.ref 301), (.int 183 0), (.int 0 0), (.ref 308), (.int 194 0), (.int 0 0), (.ref 315), (.int 201 0), (.int 0 0), (.ref 322)]), #[]⟩
noncomputable def m2o109 (P : Params) : Obj := ⟨(.type "dict"), none, (.dict #[de P "__module__" 319 (.str "earlyscribe.errors" 187), de P "__qualname__" 321 (.str "NeverPlain" 320), de P "__firstlineno__" 323 (.int 19 322), de P "__init__" 332 (.ref 120), de P "__static_attributes__" 335 (.ref 121)] 5), #[]⟩
noncomputable def m2o111 (P : Params) : Obj := ⟨.none, none, (.fields #[(.int 21 0), (.int 4 0), (.ref 119)]), #[]⟩
noncomputable def m2o112 (P : Params) : Obj := ⟨(.type "code"), none, (.fields #[(.str "NeverPlain" 314), (.str "NeverPlain" 315), (.str "/claim/cut.py" 316), (.int 19 0), (.int 0 0), (.int 0 0), (.int 0 0), (.int 0 0), (.ref 110), (.bool false), (.int 181 0), (.ref 111), .none, .none, .none, .none, (.int 317 0), (.int 19 0), (.str "/claim/cut.py" 318)]), #[]⟩
noncomputable def m2o113 (P : Params) : Obj := ⟨(.type "frame"), none, .plain, #[(some (.ref 112)), (some (.ref 3)), (some (.ref 109)), none, (some (.str "earlyscribe.errors" 187)), none, (some (.ref 0))]⟩
noncomputable def m2o116 (P : Params) : Obj := ⟨(.type "tuple"), none, (.seq #[(.str "self" 327), (.str "ones" 328), (.str "others" 329)] 0), #[]⟩
noncomputable def m2o118 (P : Params) : Obj := ⟨.none, none, (.func (.mk "__init__" "NeverPlain.__init__" (.mk [] [(.mk "self" none (.mk 21 17 21 21)), (.mk "ones" none (.mk 21 23 21 27)), (.mk "others" none (.mk 21 29 21 35))] none [] [] none []) (.stmts [(.Expr (.Call (.Attribute (.Name "ScribeError" (.mk 22 8 22 19)) "__init__" (.mk 22 8 22 28)) [(.Name "self" (.mk 22 29 22 33)), (.Name "ones" (.mk 22 35 22 39)), (.Name "others" (.mk 22 41 22 47))] [] (.mk 22 8 22 48)) (.mk 22 8 22 48)), (.Assign [(.Attribute (.Name "self" (.mk 23 8 23 12)) "ones" (.mk 23 8 23 17))] (.Name "ones" (.mk 23 20 23 24)) (.mk 23 8 23 24)), (.Assign [(.Attribute (.Name "self" (.mk 24 8 24 12)) "others" (.mk 24 8 24 19))] (.Name "others" (.mk 24 22 24 28)) (.mk 24 8 24 28))]) (.mk .function [("self", .local), ("ones", .local), ("others", .local), ("ScribeError", .globalImplicit)] false false []) 0 [] .none .none .none .none none .none .none 0)), #[]⟩
noncomputable def m2o119 (P : Params) : Obj := ⟨(.type "code"), none, (.fields #[(.str "__init__" 324), (.str "NeverPlain.__init__" 325), (.str "/claim/cut.py" 326), (.int 21 0), (.int 3 0), (.int 0 0), (.int 0 0), (.int 3 0), (.ref 114), (.bool true), (.int 181 0), (.ref 115), .none, (.ref 116), (.ref 117), (.ref 118), (.int 330 0), (.int 21 0), (.str "/claim/cut.py" 331)]), #[]⟩
noncomputable def m2o120 (P : Params) : Obj := ⟨(.type "function"), none, (.func (.mk "__init__" "NeverPlain.__init__" (.mk [] [(.mk "self" none (.mk 21 17 21 21)), (.mk "ones" none (.mk 21 23 21 27)), (.mk "others" none (.mk 21 29 21 35))] none [] [] none []) (.stmts [(.Expr (.Call (.Attribute (.Name "ScribeError" (.mk 22 8 22 19)) "__init__" (.mk 22 8 22 28)) [(.Name "self" (.mk 22 29 22 33)), (.Name "ones" (.mk 22 35 22 39)), (.Name "others" (.mk 22 41 22 47))] [] (.mk 22 8 22 48)) (.mk 22 8 22 48)), (.Assign [(.Attribute (.Name "self" (.mk 23 8 23 12)) "ones" (.mk 23 8 23 17))] (.Name "ones" (.mk 23 20 23 24)) (.mk 23 8 23 24)), (.Assign [(.Attribute (.Name "self" (.mk 24 8 24 12)) "others" (.mk 24 8 24 19))] (.Name "others" (.mk 24 22 24 28)) (.mk 24 8 24 28))]) (.mk .function [("self", .local), ("ones", .local), ("others", .local), ("ScribeError", .globalImplicit)] false false []) 3 [] .none .none .none (.str "earlyscribe.errors" 187) none (.ref 119) .none 0)), #[]⟩
noncomputable def m2o121 (P : Params) : Obj := ⟨(.type "tuple"), none, (.seq #[(.str "ones" 333), (.str "others" 334)] 0), #[]⟩
noncomputable def m2o124 (P : Params) : Obj := ⟨(.type "super"), none, (.fields #[(.ref 123), (.ref 123), (.ref 123)]), #[]⟩
noncomputable def m2o125 (P : Params) : Obj := ⟨(.type "builtin_function_or_method"), none, (.fields #[(.builtin "object.__init_subclass__"), (.ref 123)]), #[]⟩
noncomputable def m2o128 (P : Params) : Obj := ⟨(.type "dict"), none, (.dict #[de P "__module__" 346 (.str "earlyscribe.errors" 187), de P "__qualname__" 348 (.str "NoText" 347), de P "__firstlineno__" 350 (.int 25 349), de P "__static_attributes__" 351 (.ref 133)] 4), #[]⟩
noncomputable def m2o131 (P : Params) : Obj := ⟨(.type "code"), none, (.fields #[(.str "NoText" 341), (.str "NoText" 342), (.str "/claim/cut.py" 343), (.int 25 0), (.int 0 0), (.int 0 0), (.int 0 0), (.int 0 0), (.ref 129), (.bool false), (.int 181 0), (.ref 130), .none, .none, .none, .none, (.int 344 0), (.int 25 0), (.str "/claim/cut.py" 345)]), #[]⟩
noncomputable def m2o132 (P : Params) : Obj := ⟨(.type "frame"), none, .plain, #[(some (.ref 131)), (some (.ref 3)), (some (.ref 128)), none, (some (.str "earlyscribe.errors" 187)), none, (some (.ref 0))]⟩
noncomputable def m2o136 (P : Params) : Obj := ⟨(.type "super"), none, (.fields #[(.ref 135), (.ref 135), (.ref 135)]), #[]⟩
noncomputable def m2o137 (P : Params) : Obj := ⟨(.type "builtin_function_or_method"), none, (.fields #[(.builtin "object.__init_subclass__"), (.ref 135)]), #[]⟩
noncomputable def m2o140 (P : Params) : Obj := ⟨(.type "tuple"), none, (.seq #[(.str "scribe" 374), (.str "found" 375), (.str "step" 376)] 0), #[]⟩
noncomputable def m2o142 (P : Params) : Obj := fog "steps_by_start" (top 18) .none none 0 0 .none .none .none none .none .none #[]
noncomputable def m2o147 (P : Params) : Obj := ⟨(.type "tuple"), none, (.seq #[(.str "scribe" 383), (.str "found" 384), (.str "room" 385), (.str "word" 386)] 0), #[]⟩
noncomputable def m2o149 (P : Params) : Obj := fog "end_words_by_room" (top 19) .none none 0 0 .none .none .none none .none .none #[]
noncomputable def m2o154 (P : Params) : Obj := ⟨(.type "tuple"), none, (.seq #[(.str "pairs" 393)] 0), #[]⟩
noncomputable def m2o156 (P : Params) : Obj := fog "refuse_many" (top 20) .none none 0 0 .none .none .none none .none .none #[]
noncomputable def m2o161 (P : Params) : Obj := ⟨(.type "tuple"), none, (.seq #[(.str "pairs" 400), (.str "sign" 401), (.str "steps" 402), (.str "behind" 403), (.str "room" 404), (.str "word" 405), (.str "step" 406)] 0), #[]⟩
noncomputable def m2o163 (P : Params) : Obj := fog "pairs_behind" (top 21) .none none 0 0 .none .none .none none .none .none #[]
noncomputable def m2o168 (P : Params) : Obj := ⟨(.type "tuple"), none, (.seq #[(.str "steps" 419), (.str "side" 420), (.str "found" 421), (.str "place" 422), (.str "step" 423)] 0), #[]⟩
noncomputable def m2o170 (P : Params) : Obj := fog "places_at" (top 25) .none none 0 0 .none .none .none none .none .none #[]
noncomputable def m2o175 (P : Params) : Obj := ⟨(.type "tuple"), none, (.seq #[(.str "marks" 430), (.str "steps" 431), (.str "near" 432), (.str "far" 433), (.str "traces" 434), (.str "place" 435), (.str "mark" 436), (.str "places" 437), (.str "front" 438), (.str "behind" 439), (.str "room" 440), (.str "other" 441)] 0), #[]⟩
noncomputable def m2o177 (P : Params) : Obj := fog "traces_from" (top 26) .none none 0 0 .none .none .none none .none .none #[]
noncomputable def m2o182 (P : Params) : Obj := ⟨(.type "tuple"), none, (.seq #[(.str "scribe" 448)] 0), #[]⟩
noncomputable def m2o184 (P : Params) : Obj := fog "traces_from_begins" (top 27) .none none 0 0 .none .none .none none .none .none #[]
noncomputable def m2o189 (P : Params) : Obj := ⟨(.type "tuple"), none, (.seq #[(.str "scribe" 455)] 0), #[]⟩
noncomputable def m2o191 (P : Params) : Obj := fog "traces_to_ends" (top 28) .none none 0 0 .none .none .none none .none .none #[]
noncomputable def m2o196 (P : Params) : Obj := ⟨(.type "tuple"), none, (.seq #[(.str "room" 462), (.str "traces" 463), (.str "steps" 464), (.str "near" 465), (.str "trail" 466), (.str "place" 467)] 0), #[]⟩
noncomputable def m2o198 (P : Params) : Obj := fog "trail_of" (top 29) .none none 0 0 .none .none .none none .none .none #[]
noncomputable def m2o203 (P : Params) : Obj := fog "useful_rooms" (top 30) .none none 0 0 .none .none .none none .none .none #[]
noncomputable def m2o208 (P : Params) : Obj := fog "marks_kept" (top 31) .none none 0 0 .none .none .none none .none .none #[]
noncomputable def m2o213 (P : Params) : Obj := fog "steps_kept" (top 32) .none none 0 0 .none .none .none none .none .none #[]
noncomputable def m2o218 (P : Params) : Obj := ⟨(.type "tuple"), none, (.seq #[(.str "scribe" 492), (.str "numbers" 493), (.str "room" 494), (.str "begins" 495), (.str "steps" 496), (.str "ends" 497)] 0), #[]⟩
noncomputable def m2o220 (P : Params) : Obj := fog "trimmed_of" (top 33) .none none 0 0 .none .none .none none .none .none #[]
noncomputable def m2o225 (P : Params) : Obj := ⟨(.type "tuple"), none, (.seq #[(.str "scribe" 512)] 0), #[]⟩
noncomputable def m2o227 (P : Params) : Obj := fog "refuse_many_rooms" (top 38) .none none 0 0 .none .none .none none .none .none #[]
noncomputable def m2o232 (P : Params) : Obj := ⟨(.type "tuple"), none, (.seq #[(.str "keys" 519), (.str "counts" 520), (.str "places" 521), (.str "place" 522), (.str "key" 523)] 0), #[]⟩
noncomputable def m2o234 (P : Params) : Obj := fog "two_of_each" (top 39) .none none 0 0 .none .none .none none .none .none #[]
noncomputable def m2o239 (P : Params) : Obj := fog "doubled_marks" (top 40) .none none 0 0 .none .none .none none .none .none #[]
noncomputable def m2o244 (P : Params) : Obj := fog "places_by_sign" (top 41) .none none 0 0 .none .none .none none .none .none #[]
noncomputable def m2o249 (P : Params) : Obj := ⟨(.type "tuple"), none, (.seq #[(.str "steps" 542), (.str "doubled" 543), (.str "places" 544), (.str "one" 545), (.str "first" 546), (.str "other" 547), (.str "second" 548), (.str "start" 549), (.str "goal" 550)] 0), #[]⟩
noncomputable def m2o251 (P : Params) : Obj := fog "doubled_steps" (top 42) .none none 0 0 .none .none .none none .none .none #[]
noncomputable def m2o256 (P : Params) : Obj := ⟨(.type "tuple"), none, (.seq #[(.str "scribe" 557), (.str "begins" 558), (.str "steps" 559), (.str "ends" 560)] 0), #[]⟩
noncomputable def m2o258 (P : Params) : Obj := fog "doubled_of" (top 43) .none none 0 0 .none .none .none none .none .none #[]
noncomputable def m2o263 (P : Params) : Obj := ⟨(.type "tuple"), none, (.seq #[(.str "ahead" 567), (.str "behind" 568)] 0), #[]⟩
noncomputable def m2o265 (P : Params) : Obj := fog "behind_one_another" (top 44) .none none 0 0 .none .none .none none .none .none #[]
noncomputable def m2o270 (P : Params) : Obj := ⟨(.type "tuple"), none, (.seq #[(.str "double" 575), (.str "ahead" 576), (.str "words" 577), (.str "pair" 578), (.str "trace" 579), (.str "step" 580)] 0), #[]⟩
noncomputable def m2o272 (P : Params) : Obj := fog "words_ahead" (top 45) .none none 0 0 .none .none .none none .none .none #[]
noncomputable def m2o277 (P : Params) : Obj := ⟨(.type "tuple"), none, (.seq #[(.str "double" 587), (.str "behind" 588), (.str "words" 589), (.str "pair" 590), (.str "trace" 591), (.str "step" 592)] 0), #[]⟩
noncomputable def m2o279 (P : Params) : Obj := fog "words_behind" (top 46) .none none 0 0 .none .none .none none .none .none #[]
noncomputable def m2o284 (P : Params) : Obj := ⟨(.type "tuple"), none, (.seq #[(.str "ahead" 599), (.str "behind" 600)] 0), #[]⟩
noncomputable def m2o286 (P : Params) : Obj := fog "are_apart" (top 47) .none none 0 0 .none .none .none none .none .none #[]
noncomputable def m2o291 (P : Params) : Obj := ⟨(.type "tuple"), none, (.seq #[(.str "double" 607), (.str "behind" 608), (.str "words" 609), (.str "place" 610), (.str "begin" 611), (.str "pair" 612)] 0), #[]⟩
noncomputable def m2o293 (P : Params) : Obj := fog "way_apart_by_begin" (top 48) .none none 0 0 .none .none .none none .none .none #[]
noncomputable def m2o298 (P : Params) : Obj := ⟨(.type "tuple"), none, (.seq #[(.str "pair" 619), (.str "ahead" 620), (.str "double" 621)] 0), #[]⟩
noncomputable def m2o300 (P : Params) : Obj := fog "trail_from_begin" (top 49) .none none 0 0 .none .none .none none .none .none #[]
noncomputable def m2o305 (P : Params) : Obj := ⟨(.type "tuple"), none, (.seq #[(.str "double" 628), (.str "ahead" 629), (.str "behind" 630), (.str "first_words" 631), (.str "last_words" 632), (.str "place" 633), (.str "step" 634), (.str "start" 635), (.str "goal" 636), (.str "row" 637)] 0), #[]⟩
noncomputable def m2o307 (P : Params) : Obj := fog "way_apart_by_step" (top 50) .none none 0 0 .none .none .none none .none .none #[]
noncomputable def m2o312 (P : Params) : Obj := ⟨(.type "tuple"), none, (.seq #[(.str "double" 644), (.str "ahead" 645), (.str "words" 646), (.str "place" 647), (.str "end" 648), (.str "pair" 649)] 0), #[]⟩
noncomputable def m2o314 (P : Params) : Obj := fog "way_apart_by_end" (top 51) .none none 0 0 .none .none .none none .none .none #[]
noncomputable def m2o319 (P : Params) : Obj := ⟨(.type "tuple"), none, (.seq #[(.str "double" 656), (.str "ahead" 657), (.str "behind" 658), (.str "way" 659)] 0), #[]⟩
noncomputable def m2o321 (P : Params) : Obj := fog "way_apart" (top 52) .none none 0 0 .none .none .none none .none .none #[]
noncomputable def m2t63 (P : Params) : BT := BT.node (m1o63 P) (BT.node (m1o16 P) (BT.node (m1o19 P) .nil .nil) .nil) (BT.node (m2o191 P) (BT.node (m2o319 P) .nil .nil) .nil)
noncomputable def m2t95 (P : Params) : BT := BT.node (m1o11 P) (BT.node (m1o11 P) (BT.node (ko287 P) .nil .nil) .nil) (BT.node (m1o11 P) .nil .nil)
noncomputable def m2t79 (P : Params) : BT := BT.node (m1o11 P) (BT.node (ko143 P) (BT.node (m1o11 P) .nil .nil) .nil) (BT.node (m1o19 P) .nil .nil)
noncomputable def m2t111 (P : Params) : BT := BT.node (m2o111 P) (BT.node (m2o175 P) (BT.node (m1o11 P) .nil .nil) .nil) (BT.node (m2o239 P) .nil .nil)
noncomputable def m2t71 (P : Params) : BT := BT.node (m1o11 P) (BT.node (ko135 P) (BT.node (m2o263 P) .nil .nil) .nil) (BT.node (ko199 P) .nil .nil)
noncomputable def m2t103 (P : Params) : BT := BT.node (ko103 P) (BT.node (m1o19 P) (BT.node (ko295 P) .nil .nil) .nil) (BT.node (m1o19 P) .nil .nil)
noncomputable def m2t87 (P : Params) : BT := BT.node (m1o87 P) (BT.node (ko151 P) (BT.node (m2o279 P) .nil .nil) .nil) (BT.node (ko215 P) .nil .nil)
noncomputable def m2t119 (P : Params) : BT := BT.node (m2o119 P) (BT.node (m1o11 P) (BT.node (m1o19 P) .nil .nil) .nil) (BT.node (m1o11 P) .nil .nil)
noncomputable def m2t7 (P : Params) : BT := BT.node (boot_o_7 P) (BT.node (m1o15 P) (BT.node (m1o11 P) (m2t63 P) (m2t95 P)) (BT.node (m1o11 P) (m2t79 P) (m2t111 P))) (BT.node (ko23 P) (BT.node (m1o39 P) (m2t71 P) (m2t103 P)) (BT.node (m1o11 P) (m2t87 P) (m2t119 P)))
noncomputable def m2t67 (P : Params) : BT := BT.node (m1o11 P) (BT.node (m2o131 P) (BT.node (ko259 P) .nil .nil) .nil) (BT.node (m1o19 P) (BT.node (ko323 P) .nil .nil) .nil)
noncomputable def m2t99 (P : Params) : BT := BT.node (m1o99 P) (BT.node (m2o163 P) (BT.node (m2o291 P) .nil .nil) .nil) (BT.node (m2o227 P) .nil .nil)
noncomputable def m2t83 (P : Params) : BT := BT.node (m1o11 P) (BT.node (m2o147 P) (BT.node (m1o11 P) .nil .nil) .nil) (BT.node (m1o11 P) .nil .nil)
noncomputable def m2t115 (P : Params) : BT := BT.node (m1o19 P) (BT.node (ko179 P) (BT.node (m2o307 P) .nil .nil) .nil) (BT.node (m1o19 P) .nil .nil)
noncomputable def m2t75 (P : Params) : BT := BT.node (m1o75 P) (BT.node (m1o19 P) (BT.node (ko267 P) .nil .nil) .nil) (BT.node (m2o203 P) .nil .nil)
noncomputable def m2t107 (P : Params) : BT := BT.node (m1o28 P) (BT.node (ko171 P) (BT.node (m1o11 P) .nil .nil) .nil) (BT.node (ko235 P) .nil .nil)
noncomputable def m2t91 (P : Params) : BT := BT.node (m1o11 P) (BT.node (m1o11 P) (BT.node (m1o19 P) .nil .nil) .nil) (BT.node (m1o11 P) .nil .nil)
noncomputable def m2t123 (P : Params) : BT := BT.node (ko123 P) (BT.node (m1o11 P) (BT.node (ko315 P) .nil .nil) .nil) (BT.node (m2o251 P) .nil .nil)
noncomputable def m2t11 (P : Params) : BT := BT.node (m1o11 P) (BT.node (m1o19 P) (BT.node (m1o11 P) (m2t67 P) (m2t99 P)) (BT.node (m1o51 P) (m2t83 P) (m2t115 P))) (BT.node (m1o27 P) (BT.node (m1o11 P) (m2t75 P) (m2t107 P)) (BT.node (m1o11 P) (m2t91 P) (m2t123 P)))
noncomputable def m2t65 (P : Params) : BT := BT.node (m1o16 P) (BT.node (m1o11 P) (BT.node (m1o11 P) .nil .nil) .nil) (BT.node (ko193 P) (BT.node (m2o321 P) .nil .nil) .nil)
noncomputable def m2t97 (P : Params) : BT := BT.node (m1o97 P) (BT.node (m2o161 P) (BT.node (m1o11 P) .nil .nil) .nil) (BT.node (m2o225 P) .nil .nil)
noncomputable def m2t81 (P : Params) : BT := BT.node (m1o81 P) (BT.node (m1o11 P) (BT.node (ko273 P) .nil .nil) .nil) (BT.node (ko209 P) .nil .nil)
noncomputable def m2t113 (P : Params) : BT := BT.node (m2o113 P) (BT.node (m2o177 P) (BT.node (m2o305 P) .nil .nil) .nil) (BT.node (ko241 P) .nil .nil)
noncomputable def m2t73 (P : Params) : BT := BT.node (ko73 P) (BT.node (m2o137 P) (BT.node (m2o265 P) .nil .nil) .nil) (BT.node (m1o11 P) .nil .nil)
noncomputable def m2t105 (P : Params) : BT := BT.node (m1o105 P) (BT.node (m1o11 P) (BT.node (m1o19 P) .nil .nil) .nil) (BT.node (m1o11 P) .nil .nil)
noncomputable def m2t89 (P : Params) : BT := BT.node (m1o16 P) (BT.node (m1o19 P) (BT.node (ko281 P) .nil .nil) .nil) (BT.node (m1o19 P) .nil .nil)
noncomputable def m2t121 (P : Params) : BT := BT.node (m2o121 P) (BT.node (ko185 P) (BT.node (m1o11 P) .nil .nil) .nil) (BT.node (m2o249 P) .nil .nil)
noncomputable def m2t9 (P : Params) : BT := BT.node (boot_o_9 P) (BT.node (m1o17 P) (BT.node (m1o33 P) (m2t65 P) (m2t97 P)) (BT.node (ko49 P) (m2t81 P) (m2t113 P))) (BT.node (m1o25 P) (BT.node (m1o16 P) (m2t73 P) (m2t105 P)) (BT.node (m1o57 P) (m2t89 P) (m2t121 P)))
noncomputable def m2t69 (P : Params) : BT := BT.node (m1o69 P) (BT.node (m1o11 P) (BT.node (m1o11 P) .nil .nil) .nil) (BT.node (m1o11 P) .nil .nil)
noncomputable def m2t101 (P : Params) : BT := BT.node (m1o101 P) (BT.node (ko165 P) (BT.node (m2o293 P) .nil .nil) .nil) (BT.node (ko229 P) .nil .nil)
noncomputable def m2t85 (P : Params) : BT := BT.node (ko85 P) (BT.node (m2o149 P) (BT.node (m2o277 P) .nil .nil) .nil) (BT.node (m2o213 P) .nil .nil)
noncomputable def m2t117 (P : Params) : BT := BT.node (m1o11 P) (BT.node (m1o19 P) (BT.node (ko309 P) .nil .nil) .nil) (BT.node (ko245 P) .nil .nil)
noncomputable def m2t77 (P : Params) : BT := BT.node (m1o16 P) (BT.node (m1o11 P) (BT.node (m1o19 P) .nil .nil) .nil) (BT.node (ko205 P) .nil .nil)
noncomputable def m2t109 (P : Params) : BT := BT.node (m2o109 P) (BT.node (m1o11 P) (BT.node (ko301 P) .nil .nil) .nil) (BT.node (m1o11 P) .nil .nil)
noncomputable def m2t93 (P : Params) : BT := BT.node (m1o93 P) (BT.node (ko157 P) (BT.node (m1o11 P) .nil .nil) .nil) (BT.node (ko221 P) .nil .nil)
noncomputable def m2t125 (P : Params) : BT := BT.node (m2o125 P) (BT.node (m2o189 P) (BT.node (m1o11 P) .nil .nil) .nil) (BT.node (ko253 P) .nil .nil)
noncomputable def m2t13 (P : Params) : BT := BT.node (m1o13 P) (BT.node (m1o21 P) (BT.node (ko37 P) (m2t69 P) (m2t101 P)) (BT.node (m1o16 P) (m2t85 P) (m2t117 P))) (BT.node (m1o16 P) (BT.node (m1o45 P) (m2t77 P) (m2t109 P)) (BT.node (ko61 P) (m2t93 P) (m2t125 P)))
noncomputable def m2t64 (P : Params) : BT := BT.node (m1o28 P) (BT.node (m2o128 P) (BT.node (m2o256 P) .nil .nil) .nil) (BT.node (ko192 P) (BT.node (m1o11 P) .nil .nil) .nil)
noncomputable def m2t96 (P : Params) : BT := BT.node (m1o19 P) (BT.node (m1o19 P) (BT.node (ko288 P) .nil .nil) .nil) (BT.node (m1o19 P) .nil .nil)
noncomputable def m2t80 (P : Params) : BT := BT.node (m1o19 P) (BT.node (ko144 P) (BT.node (m2o272 P) .nil .nil) .nil) (BT.node (m2o208 P) .nil .nil)
noncomputable def m2t112 (P : Params) : BT := BT.node (m2o112 P) (BT.node (m1o11 P) (BT.node (m1o19 P) .nil .nil) .nil) (BT.node (ko240 P) .nil .nil)
noncomputable def m2t72 (P : Params) : BT := BT.node (ko72 P) (BT.node (m2o136 P) (BT.node (m1o11 P) .nil .nil) .nil) (BT.node (ko200 P) .nil .nil)
noncomputable def m2t104 (P : Params) : BT := BT.node (ko104 P) (BT.node (m2o168 P) (BT.node (m1o11 P) .nil .nil) .nil) (BT.node (m2o232 P) .nil .nil)
noncomputable def m2t88 (P : Params) : BT := BT.node (m1o28 P) (BT.node (m1o11 P) (BT.node (ko280 P) .nil .nil) .nil) (BT.node (m1o11 P) .nil .nil)
noncomputable def m2t120 (P : Params) : BT := BT.node (m2o120 P) (BT.node (m2o184 P) (BT.node (m2o312 P) .nil .nil) .nil) (BT.node (m1o19 P) .nil .nil)
noncomputable def m2t8 (P : Params) : BT := BT.node (boot_o_8 P) (BT.node (m1o16 P) (BT.node (m1o19 P) (m2t64 P) (m2t96 P)) (BT.node (ko48 P) (m2t80 P) (m2t112 P))) (BT.node (ko24 P) (BT.node (m1o28 P) (m2t72 P) (m2t104 P)) (BT.node (m1o19 P) (m2t88 P) (m2t120 P)))
noncomputable def m2t68 (P : Params) : BT := BT.node (m1o19 P) (BT.node (m2o132 P) (BT.node (ko260 P) .nil .nil) .nil) (BT.node (m2o196 P) .nil .nil)
noncomputable def m2t100 (P : Params) : BT := BT.node (m1o100 P) (BT.node (ko164 P) (BT.node (m1o11 P) .nil .nil) .nil) (BT.node (ko228 P) .nil .nil)
noncomputable def m2t84 (P : Params) : BT := BT.node (ko84 P) (BT.node (m1o11 P) (BT.node (m1o19 P) .nil .nil) .nil) (BT.node (m1o19 P) .nil .nil)
noncomputable def m2t116 (P : Params) : BT := BT.node (m2o116 P) (BT.node (m1o11 P) (BT.node (ko308 P) .nil .nil) .nil) (BT.node (m2o244 P) .nil .nil)
noncomputable def m2t76 (P : Params) : BT := BT.node (m1o28 P) (BT.node (m2o140 P) (BT.node (m1o11 P) .nil .nil) .nil) (BT.node (ko204 P) .nil .nil)
noncomputable def m2t108 (P : Params) : BT := BT.node (m1o16 P) (BT.node (ko172 P) (BT.node (m2o300 P) .nil .nil) .nil) (BT.node (ko236 P) .nil .nil)
noncomputable def m2t92 (P : Params) : BT := BT.node (m1o92 P) (BT.node (m2o156 P) (BT.node (m2o284 P) .nil .nil) .nil) (BT.node (m2o220 P) .nil .nil)
noncomputable def m2t124 (P : Params) : BT := BT.node (m2o124 P) (BT.node (m1o19 P) (BT.node (ko316 P) .nil .nil) .nil) (BT.node (ko252 P) .nil .nil)
noncomputable def m2t12 (P : Params) : BT := BT.node (m2o12 P) (BT.node (m1o20 P) (BT.node (ko36 P) (m2t68 P) (m2t100 P)) (BT.node (m1o28 P) (m2t84 P) (m2t116 P))) (BT.node (m1o28 P) (BT.node (m1o19 P) (m2t76 P) (m2t108 P)) (BT.node (ko60 P) (m2t92 P) (m2t124 P)))
noncomputable def m2t66 (P : Params) : BT := BT.node (m1o66 P) (BT.node (m1o19 P) (BT.node (m2o258 P) .nil .nil) .nil) (BT.node (m1o11 P) (BT.node (ko322 P) .nil .nil) .nil)
noncomputable def m2t98 (P : Params) : BT := BT.node (m1o11 P) (BT.node (m1o11 P) (BT.node (m1o19 P) .nil .nil) .nil) (BT.node (m1o11 P) .nil .nil)
noncomputable def m2t82 (P : Params) : BT := BT.node (m1o82 P) (BT.node (m1o19 P) (BT.node (ko274 P) .nil .nil) .nil) (BT.node (ko210 P) .nil .nil)
noncomputable def m2t114 (P : Params) : BT := BT.node (m1o11 P) (BT.node (ko178 P) (BT.node (m1o11 P) .nil .nil) .nil) (BT.node (m1o11 P) .nil .nil)
noncomputable def m2t74 (P : Params) : BT := BT.node (m1o74 P) (BT.node (m1o11 P) (BT.node (ko266 P) .nil .nil) .nil) (BT.node (m1o19 P) .nil .nil)
noncomputable def m2t106 (P : Params) : BT := BT.node (m1o106 P) (BT.node (m2o170 P) (BT.node (m2o298 P) .nil .nil) .nil) (BT.node (m2o234 P) .nil .nil)
noncomputable def m2t90 (P : Params) : BT := BT.node (m1o90 P) (BT.node (m2o154 P) (BT.node (m1o11 P) .nil .nil) .nil) (BT.node (m2o218 P) .nil .nil)
noncomputable def m2t122 (P : Params) : BT := BT.node (ko122 P) (BT.node (ko186 P) (BT.node (m2o314 P) .nil .nil) .nil) (BT.node (m1o11 P) .nil .nil)
noncomputable def m2t10 (P : Params) : BT := BT.node (boot_o_10 P) (BT.node (m1o11 P) (BT.node (m1o34 P) (m2t66 P) (m2t98 P)) (BT.node (m1o50 P) (m2t82 P) (m2t114 P))) (BT.node (m1o26 P) (BT.node (m1o42 P) (m2t74 P) (m2t106 P)) (BT.node (m1o58 P) (m2t90 P) (m2t122 P)))
noncomputable def m2t70 (P : Params) : BT := BT.node (m1o70 P) (BT.node (ko134 P) (BT.node (m1o19 P) .nil .nil) .nil) (BT.node (m2o198 P) .nil .nil)
noncomputable def m2t102 (P : Params) : BT := BT.node (m1o102 P) (BT.node (m1o11 P) (BT.node (ko294 P) .nil .nil) .nil) (BT.node (m1o11 P) .nil .nil)
noncomputable def m2t86 (P : Params) : BT := BT.node (m1o86 P) (BT.node (ko150 P) (BT.node (m1o11 P) .nil .nil) .nil) (BT.node (ko214 P) .nil .nil)
noncomputable def m2t118 (P : Params) : BT := BT.node (m2o118 P) (BT.node (m2o182 P) (BT.node (m1o11 P) .nil .nil) .nil) (BT.node (ko246 P) .nil .nil)
noncomputable def m2t78 (P : Params) : BT := BT.node (m1o78 P) (BT.node (m2o142 P) (BT.node (m2o270 P) .nil .nil) .nil) (BT.node (m1o11 P) .nil .nil)
noncomputable def m2t110 (P : Params) : BT := BT.node (m1o11 P) (BT.node (m1o19 P) (BT.node (ko302 P) .nil .nil) .nil) (BT.node (m1o19 P) .nil .nil)
noncomputable def m2t94 (P : Params) : BT := BT.node (m1o94 P) (BT.node (ko158 P) (BT.node (m2o286 P) .nil .nil) .nil) (BT.node (ko222 P) .nil .nil)
noncomputable def m2t126 (P : Params) : BT := BT.node (m1o28 P) (BT.node (m1o11 P) (BT.node (m1o19 P) .nil .nil) .nil) (BT.node (m1o11 P) .nil .nil)
noncomputable def m2t14 (P : Params) : BT := BT.node (m1o14 P) (BT.node (m1o11 P) (BT.node (m1o38 P) (m2t70 P) (m2t102 P)) (BT.node (m1o54 P) (m2t86 P) (m2t118 P))) (BT.node (m1o30 P) (BT.node (m1o46 P) (m2t78 P) (m2t110 P)) (BT.node (m1o62 P) (m2t94 P) (m2t126 P)))
noncomputable def m2l (P : Params) : BT := (BT.node (boot_o_0 P) (BT.node (boot_o_1 P) (BT.node (m2o3 P) (m2t7 P) (m2t11 P)) (BT.node (boot_o_5 P) (m2t9 P) (m2t13 P))) (BT.node (boot_o_2 P) (BT.node (boot_o_4 P) (m2t8 P) (m2t12 P)) (BT.node (boot_o_6 P) (m2t10 P) (m2t14 P))))
end My
lay_quick My.m2l
namespace My
open PySem PySem.W PyProof.Rows L2 L3
noncomputable def m2 (w : World) (os : OsState) : SharedT := ⟨m2l w.params, 324, (.mk [] [] [] 0 [] [] false #[] [] 0 false false false 0 [2000, 10, 10] false 0 true [] [] 0 false), Array.mk [], (.mk 0 0 0 0), 663, os⟩
theorem u2 : Hd.Upto PySem.Challenge.pw_earlyscribe_k84_rooms_above_eight env ⟨0, 0, 0, 0⟩ 11 (some (.ref 6)) 2999 53 m2 ⟨201, 0, 209, 14⟩ := by
  refine Hd.upto_next (i := 45) (n := 1480) u1 ?_
  intro w
  unfold env m2 m1
  rw [PySem.W.Fast.te10110043849684766642, PySem.W.Fast.te14364793385576792824, PySem.W.Fast.te18334398037930599599, PySem.W.Fast.te2370841535385321264, PySem.W.Fast.te16960278174366946017]
  kernel_rfl
noncomputable def m3o3 (P : Params) : Obj := ⟨(.type "dict"), none, (.dict #[de P "__name__" 165 (.str "law_earlyscribe_k84_rooms_above_eight" 1021), de P "__doc__" 166 .none, de P "__package__" 167 .none, de P "__loader__" 168 (.builtin "__main__.__loader__#opaque"), de P "__spec__" 169 .none, de P "__annotations__" 170 (.ref 6), de P "__builtins__" 171 (.ref 4), de P "__file__" 173 (.str "/claim/cut.py" 172), de P "__cached__" 174 .none, de P "ScribeError" 206 (.ref 24), de P "NoWay" 222 (.ref 37), de P "NoRoom" 238 (.ref 49), de P "NotPlain" 254 (.ref 61), de P "OtherSigns" 270 (.ref 73), de P "TooMany" 286 (.ref 85), de P "TwoWays" 311 (.ref 104), de P "NeverPlain" 338 (.ref 123), de P "NoText" 354 (.ref 135), de P "SIGNS" 358 (.int 0 357), de P "ROOMS" 360 (.int 1 359), de P "BEGINS" 362 (.int 2 361), de P "STEPS" 364 (.int 3 363), de P "ENDS" 366 (.int 4 365), de P "MOST_ROOMS" 368 (.int 200 367), de P "MOST_PAIRS" 370 (.int 1000 369), de P "steps_by_start" 379 (.ref 144), de P "end_words_by_room" 389 (.ref 151), de P "refuse_many" 396 (.ref 158), de P "pairs_behind" 409 (.ref 165), de P "OUT_OF" 413 (.int 0 412), de P "INTO" 415 (.int 3 414), de P "places_at" 426 (.ref 172), de P "traces_from" 444 (.ref 179), de P "traces_from_begins" 451 (.ref 186), de P "traces_to_ends" 458 (.ref 193), de P "trail_of" 470 (.ref 200), de P "useful_rooms" 476 (.ref 205), de P "marks_kept" 482 (.ref 210), de P "steps_kept" 488 (.ref 215), de P "trimmed_of" 500 (.ref 222), de P "MOST_ROOMS_WITH_CHOICES" 504 (.int 8 503), de P "PLACES" 506 (.int 1 505), de P "WORDS" 508 (.int 2 507), de P "refuse_many_rooms" 515 (.ref 229), de P "two_of_each" 526 (.ref 236), de P "doubled_marks" 532 (.ref 241), de P "places_by_sign" 538 (.ref 246), de P "doubled_steps" 553 (.ref 253), de P "doubled_of" 563 (.ref 260), de P "behind_one_another" 571 (.ref 267), de P "words_ahead" 583 (.ref 274), de P "words_behind" 595 (.ref 281), de P "are_apart" 603 (.ref 288), de P "way_apart_by_begin" 615 (.ref 295), de P "trail_from_begin" 624 (.ref 302), de P "way_apart_by_step" 640 (.ref 309), de P "way_apart_by_end" 652 (.ref 316), de P "way_apart" 662 (.ref 323), de P "single_way" 668 (.ref 328), de P "two_ways" 677 (.ref 335), de P "shared_length" 690 (.ref 342), de P "common_of" 699 (.ref 349), de P "gap_of" 708 (.ref 356), de P "each_once" 719 (.ref 363), de P "numbers_as_come_to" 725 (.ref 368), de P "numbered_of" 731 (.ref 373), de P "RESTS_TO_GO_ON_FROM" 735 (.int 2 734), de P "NOTHING" 738 (.ref 374), de P "are_all_in" 744 (.ref 379), de P "double_of_use" 750 (.ref 384), de P "rest_behind" 759 (.ref 391), de P "longer_rows" 771 (.ref 398), de P "rows_by_rest" 777 (.ref 403), de P "around_pair" 786 (.ref 410), de P "round_to_ask" 805 (.ref 417), de P "row_to_round" 820 (.ref 424), de P "single_round" 826 (.ref 429), de P "rounds_at" 839 (.ref 436), de P "rounds_apart" 845 (.ref 441), de P "shared_and_set" 853 (.ref 446), de P "refuse_further_set" 860 (.ref 453), de P "made_ends" 866 (.ref 458), de P "made_of" 882 (.ref 465), de P "made_plain" 892 (.ref 472), de P "LETTERS" 896 (.str "abcdefghijklmnopqrstuvwxyz" 895), de P "starts_by_goal" 902 (.ref 477), de P "rooms_ahead" 914 (.ref 484), de P "rooms_with_ends" 920 (.ref 489), de P "first_mark" 930 (.ref 496), de P "letters_for" 936 (.ref 501), de P "sets_and_moves" 949 (.ref 508), de P "back_of" 955 (.ref 513), de P "steps_from_first" 969 (.ref 520), de P "steps_in_two" 982 (.ref 527), de P "unlike_steps" 991 (.ref 534), de P "all_forth_steps" 1003 (.ref 541), de P "forth_of" 1009 (.ref 546), de P "two_passes" 1020 (.ref 553), de P "_law_cell_at" 1030 (.ref 560), de P "_law_mixed" 1039 (.ref 567), de P "_law_copy" 1046 (.ref 574), de P "_law_alone" 1052 (.ref 579)] 102), #[]⟩
noncomputable def m3o12 (P : Params) : Obj := ⟨.none, none, (.fields #[(.int 2 0), (.int 0 0), (.ref 20), (.int 4 0), (.int 0 0), (.ref 33), (.int 6 0), (.int 0 0), (.ref 45), (.int 8 0), (.int 0 0), (.ref 57), (.int 10 0), (.int 0 0), (.ref 69), (.int 12 0), (.int 0 0), (.ref 81), (.int 14 0), (.int 0 0), (.ref 93), (.int 19 0), (.int 0 0), (.ref 112), (.int 25 0), (.int 0 0), (.ref 131), (.int 35 0), (.int 0 0), (.ref 143), (.int 40 0), (.int 0 0), (.ref 150), (.int 45 0), (.int 0 0), (.ref 157), (.int 48 0), (.int 0 0), (.ref 164), (.int 58 0), (.int 0 0), (.ref 171), (.int 63 0), (.int 0 0), (.ref 178), (.int 80 0), (.int 0 0), (.ref 185), (.int 82 0), (.int 0 0), (.ref 192), (.int 84 0), (.int 0 0), (.ref 199), (.int 91 0), (.int 0 0), (.ref 204), (.int 94 0), (.int 0 0), (.ref 209), (.int 96 0), (.int 0 0), (.ref 214), (.int 99 0), (.int 0 0), (.ref 221), (.int 111 0), (.int 0 0), (.ref 228), (.int 114 0), (.int 0 0), (.ref 235), (.int 122 0), (.int 0 0), (.ref 240), (.int 131 0), (.int 0 0), (.ref 245), (.int 136 0), (.int 0 0), (.ref 252), (.int 147 0), (.int 0 0), (.ref 259), (.int 152 0), (.int 0 0), (.ref 266), (.int 154 0), (.int 0 0), (.ref 273), (.int 163 0), (.int 0 0), (.ref 280), (.int 172 0), (.int 0 0), (.ref 287), (.int 174 0), (.int 0 0), (.ref 294), (.int 181 0), (.int 0 0), (.ref 301), (.int 183 0), (.int 0 0), (.ref 308), (.int 194 0), (.int 0 0), (.ref 315), (.int 201 0), (.int 0 0), (.ref 322), (.int 210 0), (.int 0 0), (.ref 327), (.int 213 0), (.int 0 0), (.ref 334), (.int 221 0), (.int 0 0), (.ref 341), (.int 231 0), (.int 0 0), (.ref 348), (.int 235 0), (.int 0 0), (.ref 355), (.int 239 0), (.int 0 0), (.ref 362), (.int 244 0), (.int 0 0), (.ref 367), (.int 259 0), (.int 0 0), (.ref 372), (.int 270 0), (.int 0 0), (.ref 378), (.int 272 0), (.int 0 0), (.ref 383), (.int 278 0), (.int 0 0), (.ref 390), (.int 281 0), (.int 0 0), (.ref 397), (.int 287 0), (.int 0 0), (.ref 402), (.int 303 0), (.int 0 0), (.ref 409), (.int 306 0), (.int 0 0), (.ref 416), (.int 322 0), (.int 0 0), (.ref 423), (.int 331 0), (.int 0 0), (.ref 428), (.int 335 0), (.int 0 0), (.ref 435), (.int 343 0), (.int 0 0), (.ref 440), (.int 360 0), (.int 0 0), (.ref 445), (.int 363 0), (.int 0 0), (.ref 452), (.int 366 0), (.int 0 0), (.ref 457), (.int 374 0), (.int 0 0), (.ref 464), (.int 393 0), (.int 0 0), (.ref 471), (.int 406 0), (.int 0 0), (.ref 476), (.int 411 0), (.int 0 0), (.ref 483), (.int 417 0), (.int 0 0), (.ref 488), (.int 419 0), (.int 0 0), (.ref 495), (.int 424 0), (.int 0 0), (.ref 500), (.int 429 0), (.int 0 0), (.ref 507), (.int 446 0), (.int 0 0), (.ref 512), (.int 453 0), (.int 0 0), (.ref 519), (.int 461 0), (.int 0 0), (.ref 526), (.int 469 0), (.int 0 0), (.ref 533), (.int 474 0), (.int 0 0), (.ref 540), (.int 482 0), (.int 0 0), (.ref 545), (.int 493 0), (.int 0 0), (.ref 552), (.int 505 0), (.int 0 0), (.ref 559), (.int 509 0), (.int 0 0), (.ref 566), (.int 513 0), (.int 0 0), (.ref 573), (.int 515 0), (.int 0 0), (.ref 578)]), #[]⟩
noncomputable def m3o326 (P : Params) : Obj := fog "single_way" (top 53) .none none 0 0 .none .none .none none .none .none #[]
noncomputable def m3o331 (P : Params) : Obj := ⟨(.type "tuple"), none, (.seq #[(.str "scribe" 672), (.str "double" 673), (.str "way" 674)] 0), #[]⟩
noncomputable def m3o333 (P : Params) : Obj := fog "two_ways" (top 54) .none none 0 0 .none .none .none none .none .none #[]
noncomputable def m3o338 (P : Params) : Obj := ⟨(.type "tuple"), none, (.seq #[(.str "one" 683), (.str "other" 684), (.str "sure" 685), (.str "most" 686), (.str "middle" 687)] 0), #[]⟩
noncomputable def m3o340 (P : Params) : Obj := fog "shared_length" (top 56) .none none 0 0 .none .none .none none .none .none #[]
noncomputable def m3o345 (P : Params) : Obj := ⟨(.type "tuple"), none, (.seq #[(.str "words" 694), (.str "first" 695), (.str "last" 696)] 0), #[]⟩
noncomputable def m3o347 (P : Params) : Obj := fog "common_of" (top 57) .none none 0 0 .none .none .none none .none .none #[]
noncomputable def m3o352 (P : Params) : Obj := ⟨(.type "tuple"), none, (.seq #[(.str "one" 703), (.str "other" 704), (.str "shared" 705)] 0), #[]⟩
noncomputable def m3o354 (P : Params) : Obj := fog "gap_of" (top 58) .none none 0 0 .none .none .none none .none .none #[]
noncomputable def m3o359 (P : Params) : Obj := ⟨(.type "tuple"), none, (.seq #[(.str "parts" 714), (.str "found" 715), (.str "part" 716)] 0), #[]⟩
noncomputable def m3o361 (P : Params) : Obj := fog "each_once" (top 60) .none none 0 0 .none .none .none none .none .none #[]
noncomputable def m3o366 (P : Params) : Obj := fog "numbers_as_come_to" (top 61) .none none 0 0 .none .none .none none .none .none #[]
noncomputable def m3o371 (P : Params) : Obj := fog "numbered_of" (top 62) .none none 0 0 .none .none .none none .none .none #[]
noncomputable def m3o374 (P : Params) : Obj := ⟨(.type "tuple"), none, (.seq #[(.str "" 736), (.str "" 737)] 0), #[]⟩
noncomputable def m3o377 (P : Params) : Obj := fog "are_all_in" (top 66) .none none 0 0 .none .none .none none .none .none #[]
noncomputable def m3o382 (P : Params) : Obj := fog "double_of_use" (top 67) .none none 0 0 .none .none .none none .none .none #[]
noncomputable def m3o387 (P : Params) : Obj := ⟨(.type "tuple"), none, (.seq #[(.str "rest" 754), (.str "words" 755), (.str "told" 756)] 0), #[]⟩
noncomputable def m3o389 (P : Params) : Obj := fog "rest_behind" (top 68) .none none 0 0 .none .none .none none .none .none #[]
noncomputable def m3o394 (P : Params) : Obj := ⟨(.type "tuple"), none, (.seq #[(.str "double" 763), (.str "places" 764), (.str "told" 765), (.str "longer" 766), (.str "place" 767), (.str "step" 768)] 0), #[]⟩
noncomputable def m3o396 (P : Params) : Obj := fog "longer_rows" (top 69) .none none 0 0 .none .none .none none .none .none #[]
noncomputable def m3o401 (P : Params) : Obj := fog "rows_by_rest" (top 70) .none none 0 0 .none .none .none none .none .none #[]
noncomputable def m3o406 (P : Params) : Obj := ⟨(.type "tuple"), none, (.seq #[(.str "double" 781), (.str "pair" 782), (.str "mark" 783)] 0), #[]⟩
noncomputable def m3o408 (P : Params) : Obj := fog "around_pair" (top 71) .none none 0 0 .none .none .none none .none .none #[]
noncomputable def m3o413 (P : Params) : Obj := ⟨(.type "tuple"), none, (.seq #[(.str "around" 790), (.str "ahead" 791), (.str "behind" 792), (.str "first_words" 793), (.str "last_words" 794), (.str "told" 795), (.str "place" 796), (.str "step" 797), (.str "start" 798), (.str "goal" 799), (.str "words" 800), (.str "are_level" 801), (.str "row" 802)] 0), #[]⟩
noncomputable def m3o415 (P : Params) : Obj := fog "round_to_ask" (top 72) .none none 0 0 .none .none .none none .none .none #[]
noncomputable def m3o420 (P : Params) : Obj := ⟨(.type "tuple"), none, (.seq #[(.str "around" 809), (.str "behind" 810), (.str "rows" 811), (.str "words" 812), (.str "last_words" 813), (.str "pair" 814), (.str "rest" 815), (.str "ahead_of_round" 816), (.str "row" 817)] 0), #[]⟩
noncomputable def m3o422 (P : Params) : Obj := fog "row_to_round" (top 73) .none none 0 0 .none .none .none none .none .none #[]
noncomputable def m3o427 (P : Params) : Obj := fog "single_round" (top 74) .none none 0 0 .none .none .none none .none .none #[]
noncomputable def m3o432 (P : Params) : Obj := ⟨(.type "tuple"), none, (.seq #[(.str "double" 830), (.str "rows" 831), (.str "around" 832), (.str "ahead" 833), (.str "behind" 834), (.str "told" 835), (.str "row" 836)] 0), #[]⟩
noncomputable def m3o434 (P : Params) : Obj := fog "rounds_at" (top 75) .none none 0 0 .none .none .none none .none .none #[]
noncomputable def m3o439 (P : Params) : Obj := fog "rounds_apart" (top 76) .none none 0 0 .none .none .none none .none .none #[]
noncomputable def m3o444 (P : Params) : Obj := fog "shared_and_set" (top 78) .none none 0 0 .none .none .none none .none .none #[]
noncomputable def m3o449 (P : Params) : Obj := ⟨(.type "tuple"), none, (.seq #[(.str "sets" 857)] 0), #[]⟩
noncomputable def m3o451 (P : Params) : Obj := fog "refuse_further_set" (top 79) .none none 0 0 .none .none .none none .none .none #[]
noncomputable def m3o456 (P : Params) : Obj := fog "made_ends" (top 80) .none none 0 0 .none .none .none none .none .none #[]
noncomputable def m3o461 (P : Params) : Obj := ⟨(.type "tuple"), none, (.seq #[(.str "scribe" 870), (.str "steps_out" 871), (.str "begin" 872), (.str "sets" 873), (.str "numbers" 874), (.str "steps" 875), (.str "done" 876), (.str "sign" 877), (.str "pairs" 878), (.str "told" 879)] 0), #[]⟩
noncomputable def m3o463 (P : Params) : Obj := fog "made_of" (top 81) .none none 0 0 .none .none .none none .none .none #[]
noncomputable def m3o468 (P : Params) : Obj := ⟨(.type "tuple"), none, (.seq #[(.str "scribe" 886), (.str "ways" 887), (.str "rounds" 888), (.str "trimmed" 889)] 0), #[]⟩
noncomputable def m3o470 (P : Params) : Obj := fog "made_plain" (top 82) .none none 0 0 .none .none .none none .none .none #[]
noncomputable def m3o475 (P : Params) : Obj := fog "starts_by_goal" (top 85) .none none 0 0 .none .none .none none .none .none #[]
noncomputable def m3o480 (P : Params) : Obj := ⟨(.type "tuple"), none, (.seq #[(.str "rooms" 906), (.str "sign" 907), (.str "starts" 908), (.str "found" 909), (.str "room" 910), (.str "start" 911)] 0), #[]⟩
noncomputable def m3o482 (P : Params) : Obj := fog "rooms_ahead" (top 86) .none none 0 0 .none .none .none none .none .none #[]
noncomputable def m3o487 (P : Params) : Obj := fog "rooms_with_ends" (top 87) .none none 0 0 .none .none .none none .none .none #[]
noncomputable def m3o492 (P : Params) : Obj := ⟨(.type "tuple"), none, (.seq #[(.str "marks" 924), (.str "rooms" 925), (.str "place" 926), (.str "mark" 927)] 0), #[]⟩
noncomputable def m3o494 (P : Params) : Obj := fog "first_mark" (top 88) .none none 0 0 .none .none .none none .none .none #[]
noncomputable def m3o499 (P : Params) : Obj := fog "letters_for" (top 89) .none none 0 0 .none .none .none none .none .none #[]
noncomputable def m3o504 (P : Params) : Obj := ⟨(.type "tuple"), none, (.seq #[(.str "scribe" 940), (.str "starts" 941), (.str "sets" 942), (.str "moves" 943), (.str "done" 944), (.str "sign" 945), (.str "rooms" 946)] 0), #[]⟩
noncomputable def m3o506 (P : Params) : Obj := fog "sets_and_moves" (top 90) .none none 0 0 .none .none .none none .none .none #[]
noncomputable def m3o511 (P : Params) : Obj := fog "back_of" (top 91) .none none 0 0 .none .none .none none .none .none #[]
noncomputable def m3o516 (P : Params) : Obj := ⟨(.type "tuple"), none, (.seq #[(.str "scribe" 959), (.str "sets" 960), (.str "letters" 961), (.str "steps" 962), (.str "rooms" 963), (.str "letter" 964), (.str "place" 965), (.str "begin" 966)] 0), #[]⟩
noncomputable def m3o518 (P : Params) : Obj := fog "steps_from_first" (top 92) .none none 0 0 .none .none .none none .none .none #[]
noncomputable def m3o523 (P : Params) : Obj := ⟨(.type "tuple"), none, (.seq #[(.str "step" 973), (.str "sets" 974), (.str "letters" 975), (.str "behind" 976), (.str "steps" 977), (.str "rooms" 978), (.str "letter" 979)] 0), #[]⟩
noncomputable def m3o525 (P : Params) : Obj := fog "steps_in_two" (top 93) .none none 0 0 .none .none .none none .none .none #[]
noncomputable def m3o530 (P : Params) : Obj := ⟨(.type "tuple"), none, (.seq #[(.str "scribe" 986), (.str "found" 987), (.str "step" 988)] 0), #[]⟩
noncomputable def m3o532 (P : Params) : Obj := fog "unlike_steps" (top 94) .none none 0 0 .none .none .none none .none .none #[]
noncomputable def m3o537 (P : Params) : Obj := ⟨(.type "tuple"), none, (.seq #[(.str "scribe" 995), (.str "sets" 996), (.str "letters" 997), (.str "steps" 998), (.str "step" 999), (.str "found" 1000)] 0), #[]⟩
noncomputable def m3o539 (P : Params) : Obj := fog "all_forth_steps" (top 95) .none none 0 0 .none .none .none none .none .none #[]
noncomputable def m3o544 (P : Params) : Obj := fog "forth_of" (top 96) .none none 0 0 .none .none .none none .none .none #[]
noncomputable def m3o549 (P : Params) : Obj := ⟨(.type "tuple"), none, (.seq #[(.str "scribe" 1013), (.str "told" 1014), (.str "sets" 1015), (.str "letters" 1016), (.str "forth" 1017)] 0), #[]⟩
noncomputable def m3o551 (P : Params) : Obj := fog "two_passes" (top 97) .none none 0 0 .none .none .none none .none .none #[]
noncomputable def m3o556 (P : Params) : Obj := ⟨(.type "tuple"), none, (.seq #[(.str "_law_script" 1026), (.str "_law_k" 1027)] 0), #[]⟩
noncomputable def m3o558 (P : Params) : Obj := fog "_law_cell_at" (top 99) .none none 0 0 .none .none .none none .none .none #[]
noncomputable def m3o563 (P : Params) : Obj := ⟨(.type "tuple"), none, (.seq #[(.str "_law_cell" 1034), (.str "_law_k" 1035), (.str "_law_number" 1036)] 0), #[]⟩
noncomputable def m3o565 (P : Params) : Obj := fog "_law_mixed" (top 100) .none none 0 0 .none .none .none none .none .none #[]
noncomputable def m3o570 (P : Params) : Obj := ⟨(.type "tuple"), none, (.seq #[(.str "_law_scribe" 1043)] 0), #[]⟩
noncomputable def m3o572 (P : Params) : Obj := fog "_law_copy" (top 101) .none none 0 0 .none .none .none none .none .none #[]
noncomputable def m3o577 (P : Params) : Obj := fog "_law_alone" (top 102) .none none 0 0 .none .none .none none .none .none #[]
noncomputable def m3t63 (P : Params) : BT := BT.node (m1o63 P) (BT.node (m1o16 P) (BT.node (m1o19 P) (BT.node (m3o511 P) .nil .nil) .nil) (BT.node (ko383 P) .nil .nil)) (BT.node (m2o191 P) (BT.node (m2o319 P) (BT.node (m1o11 P) .nil .nil) .nil) (BT.node (m1o11 P) .nil .nil))
noncomputable def m3t95 (P : Params) : BT := BT.node (m1o11 P) (BT.node (m1o11 P) (BT.node (ko287 P) (BT.node (m1o19 P) .nil .nil) .nil) (BT.node (m3o415 P) .nil .nil)) (BT.node (m1o11 P) (BT.node (m1o19 P) .nil .nil) (BT.node (m1o19 P) .nil .nil))
noncomputable def m3t79 (P : Params) : BT := BT.node (m1o11 P) (BT.node (ko143 P) (BT.node (m1o11 P) (BT.node (ko527 P) .nil .nil) .nil) (BT.node (m1o11 P) .nil .nil)) (BT.node (m1o19 P) (BT.node (ko335 P) .nil .nil) (BT.node (m3o463 P) .nil .nil))
noncomputable def m3t111 (P : Params) : BT := BT.node (m2o111 P) (BT.node (m2o175 P) (BT.node (m1o11 P) (BT.node (ko559 P) .nil .nil) .nil) (BT.node (m1o19 P) .nil .nil)) (BT.node (m2o239 P) (BT.node (ko367 P) .nil .nil) (BT.node (ko495 P) .nil .nil))
noncomputable def m3t71 (P : Params) : BT := BT.node (m1o11 P) (BT.node (ko135 P) (BT.node (m2o263 P) (BT.node (ko519 P) .nil .nil) .nil) (BT.node (ko391 P) .nil .nil)) (BT.node (ko199 P) (BT.node (ko327 P) .nil .nil) (BT.node (m1o19 P) .nil .nil))
noncomputable def m3t103 (P : Params) : BT := BT.node (ko103 P) (BT.node (m1o19 P) (BT.node (ko295 P) (BT.node (m3o551 P) .nil .nil) .nil) (BT.node (ko423 P) .nil .nil)) (BT.node (m1o19 P) (BT.node (m3o359 P) .nil .nil) (BT.node (m3o487 P) .nil .nil))
noncomputable def m3t87 (P : Params) : BT := BT.node (m1o87 P) (BT.node (ko151 P) (BT.node (m2o279 P) (BT.node (m1o11 P) .nil .nil) .nil) (BT.node (m1o11 P) .nil .nil)) (BT.node (ko215 P) (BT.node (m1o11 P) .nil .nil) (BT.node (ko471 P) .nil .nil))
noncomputable def m3t119 (P : Params) : BT := BT.node (m2o119 P) (BT.node (m1o11 P) (BT.node (m1o19 P) (BT.node (ko567 P) .nil .nil) .nil) (BT.node (m3o439 P) .nil .nil)) (BT.node (m1o11 P) (BT.node (m1o11 P) .nil .nil) (BT.node (m1o19 P) .nil .nil))
noncomputable def m3t7 (P : Params) : BT := BT.node (boot_o_7 P) (BT.node (m1o15 P) (BT.node (m1o11 P) (m3t63 P) (m3t95 P)) (BT.node (m1o11 P) (m3t79 P) (m3t111 P))) (BT.node (ko23 P) (BT.node (m1o39 P) (m3t71 P) (m3t103 P)) (BT.node (m1o11 P) (m3t87 P) (m3t119 P)))
noncomputable def m3t67 (P : Params) : BT := BT.node (m1o11 P) (BT.node (m2o131 P) (BT.node (ko259 P) (BT.node (m1o19 P) .nil .nil) .nil) (BT.node (m3o387 P) .nil .nil)) (BT.node (m1o19 P) (BT.node (ko323 P) (BT.node (ko579 P) .nil .nil) .nil) (BT.node (m3o451 P) .nil .nil))
noncomputable def m3t99 (P : Params) : BT := BT.node (m1o99 P) (BT.node (m2o163 P) (BT.node (m2o291 P) (BT.node (m1o11 P) .nil .nil) .nil) (BT.node (m1o19 P) .nil .nil)) (BT.node (m2o227 P) (BT.node (ko355 P) .nil .nil) (BT.node (ko483 P) .nil .nil))
noncomputable def m3t83 (P : Params) : BT := BT.node (m1o11 P) (BT.node (m2o147 P) (BT.node (m1o11 P) (BT.node (m1o11 P) .nil .nil) .nil) (BT.node (ko403 P) .nil .nil)) (BT.node (m1o11 P) (BT.node (m1o11 P) .nil .nil) (BT.node (m1o19 P) .nil .nil))
noncomputable def m3t115 (P : Params) : BT := BT.node (m1o19 P) (BT.node (ko179 P) (BT.node (m2o307 P) (BT.node (m3o563 P) .nil .nil) .nil) (BT.node (ko435 P) .nil .nil)) (BT.node (m1o19 P) (BT.node (m3o371 P) .nil .nil) (BT.node (m3o499 P) .nil .nil))
noncomputable def m3t75 (P : Params) : BT := BT.node (m1o75 P) (BT.node (m1o19 P) (BT.node (ko267 P) (BT.node (m3o523 P) .nil .nil) .nil) (BT.node (m1o11 P) .nil .nil)) (BT.node (m2o203 P) (BT.node (m3o331 P) .nil .nil) (BT.node (m1o11 P) .nil .nil))
noncomputable def m3t107 (P : Params) : BT := BT.node (m1o28 P) (BT.node (ko171 P) (BT.node (m1o11 P) (BT.node (m1o19 P) .nil .nil) .nil) (BT.node (m3o427 P) .nil .nil)) (BT.node (ko235 P) (BT.node (ko363 P) .nil .nil) (BT.node (m1o19 P) .nil .nil))
noncomputable def m3t91 (P : Params) : BT := BT.node (m1o11 P) (BT.node (m1o11 P) (BT.node (m1o19 P) (BT.node (m3o539 P) .nil .nil) .nil) (BT.node (m1o11 P) .nil .nil)) (BT.node (m1o11 P) (BT.node (m3o347 P) .nil .nil) (BT.node (m3o475 P) .nil .nil))
noncomputable def m3t123 (P : Params) : BT := BT.node (ko123 P) (BT.node (m1o11 P) (BT.node (ko315 P) (BT.node (m1o11 P) .nil .nil) .nil) (BT.node (m1o19 P) .nil .nil)) (BT.node (m2o251 P) (BT.node (ko379 P) .nil .nil) (BT.node (ko507 P) .nil .nil))
noncomputable def m3t11 (P : Params) : BT := BT.node (m1o11 P) (BT.node (m1o19 P) (BT.node (m1o11 P) (m3t67 P) (m3t99 P)) (BT.node (m1o51 P) (m3t83 P) (m3t115 P))) (BT.node (m1o27 P) (BT.node (m1o11 P) (m3t75 P) (m3t107 P)) (BT.node (m1o11 P) (m3t91 P) (m3t123 P)))
noncomputable def m3t65 (P : Params) : BT := BT.node (m1o16 P) (BT.node (m1o11 P) (BT.node (m1o11 P) (BT.node (ko513 P) .nil .nil) .nil) (BT.node (m1o11 P) .nil .nil)) (BT.node (ko193 P) (BT.node (m2o321 P) (BT.node (m3o577 P) .nil .nil) .nil) (BT.node (m3o449 P) .nil .nil))
noncomputable def m3t97 (P : Params) : BT := BT.node (m1o97 P) (BT.node (m2o161 P) (BT.node (m1o11 P) (BT.node (ko545 P) .nil .nil) .nil) (BT.node (ko417 P) .nil .nil)) (BT.node (m2o225 P) (BT.node (m1o11 P) .nil .nil) (BT.node (m1o11 P) .nil .nil))
noncomputable def m3t81 (P : Params) : BT := BT.node (m1o81 P) (BT.node (m1o11 P) (BT.node (ko273 P) (BT.node (m1o19 P) .nil .nil) .nil) (BT.node (m3o401 P) .nil .nil)) (BT.node (ko209 P) (BT.node (m1o19 P) .nil .nil) (BT.node (ko465 P) .nil .nil))
noncomputable def m3t113 (P : Params) : BT := BT.node (m2o113 P) (BT.node (m2o177 P) (BT.node (m2o305 P) (BT.node (m1o11 P) .nil .nil) .nil) (BT.node (m1o11 P) .nil .nil)) (BT.node (ko241 P) (BT.node (m1o11 P) .nil .nil) (BT.node (m1o11 P) .nil .nil))
noncomputable def m3t73 (P : Params) : BT := BT.node (ko73 P) (BT.node (m2o137 P) (BT.node (m2o265 P) (BT.node (m1o11 P) .nil .nil) .nil) (BT.node (m1o19 P) .nil .nil)) (BT.node (m1o11 P) (BT.node (m1o11 P) .nil .nil) (BT.node (ko457 P) .nil .nil))
noncomputable def m3t105 (P : Params) : BT := BT.node (m1o105 P) (BT.node (m1o11 P) (BT.node (m1o19 P) (BT.node (ko553 P) .nil .nil) .nil) (BT.node (m1o11 P) .nil .nil)) (BT.node (m1o11 P) (BT.node (m3o361 P) .nil .nil) (BT.node (ko489 P) .nil .nil))
noncomputable def m3t89 (P : Params) : BT := BT.node (m1o16 P) (BT.node (m1o19 P) (BT.node (ko281 P) (BT.node (m3o537 P) .nil .nil) .nil) (BT.node (ko409 P) .nil .nil)) (BT.node (m1o19 P) (BT.node (m3o345 P) .nil .nil) (BT.node (m1o11 P) .nil .nil))
noncomputable def m3t121 (P : Params) : BT := BT.node (m2o121 P) (BT.node (ko185 P) (BT.node (m1o11 P) (BT.node (m1o19 P) .nil .nil) .nil) (BT.node (ko441 P) .nil .nil)) (BT.node (m2o249 P) (BT.node (m3o377 P) .nil .nil) (BT.node (m1o11 P) .nil .nil))
noncomputable def m3t9 (P : Params) : BT := BT.node (boot_o_9 P) (BT.node (m1o17 P) (BT.node (m1o33 P) (m3t65 P) (m3t97 P)) (BT.node (ko49 P) (m3t81 P) (m3t113 P))) (BT.node (m1o25 P) (BT.node (m1o16 P) (m3t73 P) (m3t105 P)) (BT.node (m1o57 P) (m3t89 P) (m3t121 P)))
noncomputable def m3t69 (P : Params) : BT := BT.node (m1o69 P) (BT.node (m1o11 P) (BT.node (m1o11 P) (BT.node (m1o11 P) .nil .nil) .nil) (BT.node (m3o389 P) .nil .nil)) (BT.node (m1o11 P) (BT.node (m1o19 P) .nil .nil) (BT.node (ko453 P) .nil .nil))
noncomputable def m3t101 (P : Params) : BT := BT.node (m1o101 P) (BT.node (ko165 P) (BT.node (m2o293 P) (BT.node (m3o549 P) .nil .nil) .nil) (BT.node (m1o11 P) .nil .nil)) (BT.node (ko229 P) (BT.node (m1o11 P) .nil .nil) (BT.node (m1o11 P) .nil .nil))
noncomputable def m3t85 (P : Params) : BT := BT.node (ko85 P) (BT.node (m2o149 P) (BT.node (m2o277 P) (BT.node (ko533 P) .nil .nil) .nil) (BT.node (m1o19 P) .nil .nil)) (BT.node (m2o213 P) (BT.node (ko341 P) .nil .nil) (BT.node (m1o11 P) .nil .nil))
noncomputable def m3t117 (P : Params) : BT := BT.node (m1o11 P) (BT.node (m1o19 P) (BT.node (ko309 P) (BT.node (m3o565 P) .nil .nil) .nil) (BT.node (m1o11 P) .nil .nil)) (BT.node (ko245 P) (BT.node (ko373 P) .nil .nil) (BT.node (ko501 P) .nil .nil))
noncomputable def m3t77 (P : Params) : BT := BT.node (m1o16 P) (BT.node (m1o11 P) (BT.node (m1o19 P) (BT.node (m3o525 P) .nil .nil) .nil) (BT.node (ko397 P) .nil .nil)) (BT.node (ko205 P) (BT.node (m3o333 P) .nil .nil) (BT.node (m3o461 P) .nil .nil))
noncomputable def m3t109 (P : Params) : BT := BT.node (m2o109 P) (BT.node (m1o11 P) (BT.node (ko301 P) (BT.node (m1o11 P) .nil .nil) .nil) (BT.node (ko429 P) .nil .nil)) (BT.node (m1o11 P) (BT.node (m1o19 P) .nil .nil) (BT.node (m1o11 P) .nil .nil))
noncomputable def m3t93 (P : Params) : BT := BT.node (m1o93 P) (BT.node (ko157 P) (BT.node (m1o11 P) (BT.node (ko541 P) .nil .nil) .nil) (BT.node (m3o413 P) .nil .nil)) (BT.node (ko221 P) (BT.node (ko349 P) .nil .nil) (BT.node (ko477 P) .nil .nil))
noncomputable def m3t125 (P : Params) : BT := BT.node (m2o125 P) (BT.node (m2o189 P) (BT.node (m1o11 P) (BT.node (ko573 P) .nil .nil) .nil) (BT.node (ko445 P) .nil .nil)) (BT.node (ko253 P) (BT.node (m1o19 P) .nil .nil) (BT.node (m1o11 P) .nil .nil))
noncomputable def m3t13 (P : Params) : BT := BT.node (m1o13 P) (BT.node (m1o21 P) (BT.node (ko37 P) (m3t69 P) (m3t101 P)) (BT.node (m1o16 P) (m3t85 P) (m3t117 P))) (BT.node (m1o16 P) (BT.node (m1o45 P) (m3t77 P) (m3t109 P)) (BT.node (ko61 P) (m3t93 P) (m3t125 P)))
noncomputable def m3t64 (P : Params) : BT := BT.node (m1o28 P) (BT.node (m2o128 P) (BT.node (m2o256 P) (BT.node (ko512 P) .nil .nil) .nil) (BT.node (ko384 P) .nil .nil)) (BT.node (ko192 P) (BT.node (m1o11 P) (BT.node (m1o19 P) .nil .nil) .nil) (BT.node (m1o19 P) .nil .nil))
noncomputable def m3t96 (P : Params) : BT := BT.node (m1o19 P) (BT.node (m1o19 P) (BT.node (ko288 P) (BT.node (m3o544 P) .nil .nil) .nil) (BT.node (ko416 P) .nil .nil)) (BT.node (m1o19 P) (BT.node (m3o352 P) .nil .nil) (BT.node (m3o480 P) .nil .nil))
noncomputable def m3t80 (P : Params) : BT := BT.node (m1o19 P) (BT.node (ko144 P) (BT.node (m2o272 P) (BT.node (m1o11 P) .nil .nil) .nil) (BT.node (m1o19 P) .nil .nil)) (BT.node (m2o208 P) (BT.node (m1o11 P) .nil .nil) (BT.node (ko464 P) .nil .nil))
noncomputable def m3t112 (P : Params) : BT := BT.node (m2o112 P) (BT.node (m1o11 P) (BT.node (m1o19 P) (BT.node (ko560 P) .nil .nil) .nil) (BT.node (m3o432 P) .nil .nil)) (BT.node (ko240 P) (BT.node (ko368 P) .nil .nil) (BT.node (ko496 P) .nil .nil))
noncomputable def m3t72 (P : Params) : BT := BT.node (ko72 P) (BT.node (m2o136 P) (BT.node (m1o11 P) (BT.node (ko520 P) .nil .nil) .nil) (BT.node (m1o11 P) .nil .nil)) (BT.node (ko200 P) (BT.node (ko328 P) .nil .nil) (BT.node (m3o456 P) .nil .nil))
noncomputable def m3t104 (P : Params) : BT := BT.node (ko104 P) (BT.node (m2o168 P) (BT.node (m1o11 P) (BT.node (ko552 P) .nil .nil) .nil) (BT.node (ko424 P) .nil .nil)) (BT.node (m2o232 P) (BT.node (m1o11 P) .nil .nil) (BT.node (ko488 P) .nil .nil))
noncomputable def m3t88 (P : Params) : BT := BT.node (m1o28 P) (BT.node (m1o11 P) (BT.node (ko280 P) (BT.node (m1o19 P) .nil .nil) .nil) (BT.node (m3o408 P) .nil .nil)) (BT.node (m1o11 P) (BT.node (m1o19 P) .nil .nil) (BT.node (ko472 P) .nil .nil))
noncomputable def m3t120 (P : Params) : BT := BT.node (m2o120 P) (BT.node (m2o184 P) (BT.node (m2o312 P) (BT.node (m1o11 P) .nil .nil) .nil) (BT.node (ko440 P) .nil .nil)) (BT.node (m1o19 P) (BT.node (m1o19 P) .nil .nil) (BT.node (m3o504 P) .nil .nil))
noncomputable def m3t8 (P : Params) : BT := BT.node (boot_o_8 P) (BT.node (m1o16 P) (BT.node (m1o19 P) (m3t64 P) (m3t96 P)) (BT.node (ko48 P) (m3t80 P) (m3t112 P))) (BT.node (ko24 P) (BT.node (m1o28 P) (m3t72 P) (m3t104 P)) (BT.node (m1o19 P) (m3t88 P) (m3t120 P)))
noncomputable def m3t68 (P : Params) : BT := BT.node (m1o19 P) (BT.node (m2o132 P) (BT.node (ko260 P) (BT.node (m3o516 P) .nil .nil) .nil) (BT.node (m1o11 P) .nil .nil)) (BT.node (m2o196 P) (BT.node (m1o11 P) .nil .nil) (BT.node (ko452 P) .nil .nil))
noncomputable def m3t100 (P : Params) : BT := BT.node (m1o100 P) (BT.node (ko164 P) (BT.node (m1o11 P) (BT.node (m1o19 P) .nil .nil) .nil) (BT.node (m3o420 P) .nil .nil)) (BT.node (ko228 P) (BT.node (ko356 P) .nil .nil) (BT.node (ko484 P) .nil .nil))
noncomputable def m3t84 (P : Params) : BT := BT.node (ko84 P) (BT.node (m1o11 P) (BT.node (m1o19 P) (BT.node (m3o532 P) .nil .nil) .nil) (BT.node (m1o11 P) .nil .nil)) (BT.node (m1o19 P) (BT.node (m3o340 P) .nil .nil) (BT.node (m3o468 P) .nil .nil))
noncomputable def m3t116 (P : Params) : BT := BT.node (m2o116 P) (BT.node (m1o11 P) (BT.node (ko308 P) (BT.node (m1o11 P) .nil .nil) .nil) (BT.node (ko436 P) .nil .nil)) (BT.node (m2o244 P) (BT.node (ko372 P) .nil .nil) (BT.node (ko500 P) .nil .nil))
noncomputable def m3t76 (P : Params) : BT := BT.node (m1o28 P) (BT.node (m2o140 P) (BT.node (m1o11 P) (BT.node (m1o11 P) .nil .nil) .nil) (BT.node (m3o396 P) .nil .nil)) (BT.node (ko204 P) (BT.node (m1o11 P) .nil .nil) (BT.node (m1o19 P) .nil .nil))
noncomputable def m3t108 (P : Params) : BT := BT.node (m1o16 P) (BT.node (ko172 P) (BT.node (m2o300 P) (BT.node (m3o556 P) .nil .nil) .nil) (BT.node (ko428 P) .nil .nil)) (BT.node (ko236 P) (BT.node (m1o11 P) .nil .nil) (BT.node (m3o492 P) .nil .nil))
noncomputable def m3t92 (P : Params) : BT := BT.node (m1o92 P) (BT.node (m2o156 P) (BT.node (m2o284 P) (BT.node (ko540 P) .nil .nil) .nil) (BT.node (m1o19 P) .nil .nil)) (BT.node (m2o220 P) (BT.node (ko348 P) .nil .nil) (BT.node (ko476 P) .nil .nil))
noncomputable def m3t124 (P : Params) : BT := BT.node (m2o124 P) (BT.node (m1o19 P) (BT.node (ko316 P) (BT.node (m3o572 P) .nil .nil) .nil) (BT.node (m3o444 P) .nil .nil)) (BT.node (ko252 P) (BT.node (m1o11 P) .nil .nil) (BT.node (ko508 P) .nil .nil))
noncomputable def m3t12 (P : Params) : BT := BT.node (m3o12 P) (BT.node (m1o20 P) (BT.node (ko36 P) (m3t68 P) (m3t100 P)) (BT.node (m1o28 P) (m3t84 P) (m3t116 P))) (BT.node (m1o28 P) (BT.node (m1o19 P) (m3t76 P) (m3t108 P)) (BT.node (ko60 P) (m3t92 P) (m3t124 P)))
noncomputable def m3t66 (P : Params) : BT := BT.node (m1o66 P) (BT.node (m1o19 P) (BT.node (m2o258 P) (BT.node (m1o11 P) .nil .nil) .nil) (BT.node (m1o19 P) .nil .nil)) (BT.node (m1o11 P) (BT.node (ko322 P) (BT.node (ko578 P) .nil .nil) .nil) (BT.node (m1o11 P) .nil .nil))
noncomputable def m3t98 (P : Params) : BT := BT.node (m1o11 P) (BT.node (m1o11 P) (BT.node (m1o19 P) (BT.node (ko546 P) .nil .nil) .nil) (BT.node (m1o11 P) .nil .nil)) (BT.node (m1o11 P) (BT.node (m3o354 P) .nil .nil) (BT.node (m3o482 P) .nil .nil))
noncomputable def m3t82 (P : Params) : BT := BT.node (m1o82 P) (BT.node (m1o19 P) (BT.node (ko274 P) (BT.node (m3o530 P) .nil .nil) .nil) (BT.node (ko402 P) .nil .nil)) (BT.node (ko210 P) (BT.node (m3o338 P) .nil .nil) (BT.node (m1o11 P) .nil .nil))
noncomputable def m3t114 (P : Params) : BT := BT.node (m1o11 P) (BT.node (ko178 P) (BT.node (m1o11 P) (BT.node (m1o19 P) .nil .nil) .nil) (BT.node (m3o434 P) .nil .nil)) (BT.node (m1o11 P) (BT.node (m1o19 P) .nil .nil) (BT.node (m1o19 P) .nil .nil))
noncomputable def m3t74 (P : Params) : BT := BT.node (m1o74 P) (BT.node (m1o11 P) (BT.node (ko266 P) (BT.node (m1o19 P) .nil .nil) .nil) (BT.node (m3o394 P) .nil .nil)) (BT.node (m1o19 P) (BT.node (m1o19 P) .nil .nil) (BT.node (ko458 P) .nil .nil))
noncomputable def m3t106 (P : Params) : BT := BT.node (m1o106 P) (BT.node (m2o170 P) (BT.node (m2o298 P) (BT.node (m1o11 P) .nil .nil) .nil) (BT.node (m1o19 P) .nil .nil)) (BT.node (m2o234 P) (BT.node (ko362 P) .nil .nil) (BT.node (m1o11 P) .nil .nil))
noncomputable def m3t90 (P : Params) : BT := BT.node (m1o90 P) (BT.node (m2o154 P) (BT.node (m1o11 P) (BT.node (m1o11 P) .nil .nil) .nil) (BT.node (ko410 P) .nil .nil)) (BT.node (m2o218 P) (BT.node (m1o11 P) .nil .nil) (BT.node (m1o19 P) .nil .nil))
noncomputable def m3t122 (P : Params) : BT := BT.node (ko122 P) (BT.node (ko186 P) (BT.node (m2o314 P) (BT.node (m3o570 P) .nil .nil) .nil) (BT.node (m1o11 P) .nil .nil)) (BT.node (m1o11 P) (BT.node (ko378 P) .nil .nil) (BT.node (m3o506 P) .nil .nil))
noncomputable def m3t10 (P : Params) : BT := BT.node (boot_o_10 P) (BT.node (m1o11 P) (BT.node (m1o34 P) (m3t66 P) (m3t98 P)) (BT.node (m1o50 P) (m3t82 P) (m3t114 P))) (BT.node (m1o26 P) (BT.node (m1o42 P) (m3t74 P) (m3t106 P)) (BT.node (m1o58 P) (m3t90 P) (m3t122 P)))
noncomputable def m3t70 (P : Params) : BT := BT.node (m1o70 P) (BT.node (ko134 P) (BT.node (m1o19 P) (BT.node (m3o518 P) .nil .nil) .nil) (BT.node (ko390 P) .nil .nil)) (BT.node (m2o198 P) (BT.node (m3o326 P) .nil .nil) (BT.node (m1o11 P) .nil .nil))
noncomputable def m3t102 (P : Params) : BT := BT.node (m1o102 P) (BT.node (m1o11 P) (BT.node (ko294 P) (BT.node (m1o11 P) .nil .nil) .nil) (BT.node (m3o422 P) .nil .nil)) (BT.node (m1o11 P) (BT.node (m1o19 P) .nil .nil) (BT.node (m1o19 P) .nil .nil))
noncomputable def m3t86 (P : Params) : BT := BT.node (m1o86 P) (BT.node (ko150 P) (BT.node (m1o11 P) (BT.node (ko534 P) .nil .nil) .nil) (BT.node (m3o406 P) .nil .nil)) (BT.node (ko214 P) (BT.node (ko342 P) .nil .nil) (BT.node (m3o470 P) .nil .nil))
noncomputable def m3t118 (P : Params) : BT := BT.node (m2o118 P) (BT.node (m2o182 P) (BT.node (m1o11 P) (BT.node (ko566 P) .nil .nil) .nil) (BT.node (m1o19 P) .nil .nil)) (BT.node (ko246 P) (BT.node (m3o374 P) .nil .nil) (BT.node (m1o11 P) .nil .nil))
noncomputable def m3t78 (P : Params) : BT := BT.node (m1o78 P) (BT.node (m2o142 P) (BT.node (m2o270 P) (BT.node (ko526 P) .nil .nil) .nil) (BT.node (ko398 P) .nil .nil)) (BT.node (m1o11 P) (BT.node (ko334 P) .nil .nil) (BT.node (m1o11 P) .nil .nil))
noncomputable def m3t110 (P : Params) : BT := BT.node (m1o11 P) (BT.node (m1o19 P) (BT.node (ko302 P) (BT.node (m3o558 P) .nil .nil) .nil) (BT.node (m1o11 P) .nil .nil)) (BT.node (m1o19 P) (BT.node (m3o366 P) .nil .nil) (BT.node (m3o494 P) .nil .nil))
noncomputable def m3t94 (P : Params) : BT := BT.node (m1o94 P) (BT.node (ko158 P) (BT.node (m2o286 P) (BT.node (m1o11 P) .nil .nil) .nil) (BT.node (m1o11 P) .nil .nil)) (BT.node (ko222 P) (BT.node (m1o11 P) .nil .nil) (BT.node (m1o11 P) .nil .nil))
noncomputable def m3t126 (P : Params) : BT := BT.node (m1o28 P) (BT.node (m1o11 P) (BT.node (m1o19 P) (BT.node (ko574 P) .nil .nil) .nil) (BT.node (ko446 P) .nil .nil)) (BT.node (m1o11 P) (BT.node (m3o382 P) .nil .nil) (BT.node (m1o19 P) .nil .nil))
noncomputable def m3t14 (P : Params) : BT := BT.node (m1o14 P) (BT.node (m1o11 P) (BT.node (m1o38 P) (m3t70 P) (m3t102 P)) (BT.node (m1o54 P) (m3t86 P) (m3t118 P))) (BT.node (m1o30 P) (BT.node (m1o46 P) (m3t78 P) (m3t110 P)) (BT.node (m1o62 P) (m3t94 P) (m3t126 P)))
noncomputable def m3l (P : Params) : BT := (BT.node (boot_o_0 P) (BT.node (boot_o_1 P) (BT.node (m3o3 P) (m3t7 P) (m3t11 P)) (BT.node (boot_o_5 P) (m3t9 P) (m3t13 P))) (BT.node (boot_o_2 P) (BT.node (boot_o_4 P) (m3t8 P) (m3t12 P)) (BT.node (boot_o_6 P) (m3t10 P) (m3t14 P))))
end My
lay_quick My.m3l
namespace My
open PySem PySem.W PyProof.Rows L2 L3
noncomputable def m3 (w : World) (os : OsState) : SharedT := ⟨m3l w.params, 580, (.mk [] [] [] 0 [] [] false #[] [] 0 false false false 0 [2000, 10, 10] false 0 true [] [] 0 false), Array.mk [], (.mk 0 0 0 0), 1053, os⟩
theorem u3 : Hd.Upto PySem.Challenge.pw_earlyscribe_k84_rooms_above_eight env ⟨0, 0, 0, 0⟩ 11 (some (.ref 6)) 4325 103 m3 ⟨515, 0, 521, 69⟩ := by
  refine Hd.upto_next (i := 50) (n := 1326) u2 ?_
  intro w
  unfold env m3 m2
  rw [PySem.W.Fast.te10110043849684766642, PySem.W.Fast.te14364793385576792824, PySem.W.Fast.te10731049148641486068, PySem.W.Fast.te18334398037930599599, PySem.W.Fast.te16960278174366946017]
  kernel_rfl
noncomputable abbrev Xt (s : Shared) : Bool := xlAt q [] s && recOk [] s
noncomputable abbrev os1 (s : Shared) := openSeen q [] (importedModules PySem.Challenge.pw_earlyscribe_k84_rooms_above_eight.main.body) Xt true s
theorem g0 : Hd.Gp PySem.Challenge.pw_earlyscribe_k84_rooms_above_eight env ⟨0, 0, 0, 0⟩ 11 (some (.ref 6)) 43 2 103 ⟨515, 0, 521, 69⟩ ⟨522, 0, 551, 15⟩ m3 (fun w s => staticsOk (importedModules PySem.Challenge.pw_earlyscribe_k84_rooms_above_eight.main.body) (boot_heap w.params) s.heap && namesBound PySem.Challenge.pw_earlyscribe_k84_rooms_above_eight s.heap && gensDone s && laidKept (boot_heap w.params) s.heap) (fun _ => true) := by
  intro w
  unfold env m3
  rw [PySem.W.Fast.te5923862056798008813, PySem.W.Fast.te10110043849684766642, PySem.W.Fast.te14082659384304107361, PySem.W.Fast.te14364793385576792824, PySem.W.Fast.te10731049148641486068, PySem.W.Fast.te16960278174366946017]
  kernel_rfl
theorem g1 : Hd.Gp PySem.Challenge.pw_earlyscribe_k84_rooms_above_eight env ⟨0, 0, 0, 0⟩ 11 (some (.ref 6)) 43 2 103 ⟨515, 0, 521, 69⟩ ⟨522, 0, 551, 15⟩ m3 (fun _ s => (os1 s).1) (fun _ => expectedOf q) := by
  intro w
  unfold env m3 os1 Xt q
  rw [PySem.W.Fast.te4187177175401517315, PySem.W.Fast.te5923862056798008813, PySem.W.Fast.te10110043849684766642, PySem.W.Fast.te14082659384304107361, PySem.W.Fast.te14364793385576792824, PySem.W.Fast.te10731049148641486068, PySem.W.Fast.te16960278174366946017]
  kernel_rfl
theorem g2 : Hd.Gp PySem.Challenge.pw_earlyscribe_k84_rooms_above_eight env ⟨0, 0, 0, 0⟩ 11 (some (.ref 6)) 43 2 103 ⟨515, 0, 521, 69⟩ ⟨522, 0, 551, 15⟩ m3 (fun _ s => (os1 s).2.1) (fun _ => bltViewBooted) := by
  intro w
  unfold env m3 os1 Xt q
  rw [PySem.W.Fast.te4187177175401517315, PySem.W.Fast.te5923862056798008813, PySem.W.Fast.te10110043849684766642, PySem.W.Fast.te14082659384304107361, PySem.W.Fast.te14364793385576792824, PySem.W.Fast.te10731049148641486068, PySem.W.Fast.te16960278174366946017]
  kernel_rfl
theorem g3 : Hd.Gp PySem.Challenge.pw_earlyscribe_k84_rooms_above_eight env ⟨0, 0, 0, 0⟩ 11 (some (.ref 6)) 43 2 103 ⟨515, 0, 521, 69⟩ ⟨522, 0, 551, 15⟩ m3 (fun _ s => (os1 s).2.2.1) (fun _ => true) := by
  intro w
  unfold env m3 os1 Xt q
  rw [PySem.W.Fast.te4187177175401517315, PySem.W.Fast.te5923862056798008813, PySem.W.Fast.te10110043849684766642, PySem.W.Fast.te14082659384304107361, PySem.W.Fast.te14364793385576792824, PySem.W.Fast.te10731049148641486068, PySem.W.Fast.te16960278174366946017]
  kernel_rfl
theorem g4 : Hd.Gp PySem.Challenge.pw_earlyscribe_k84_rooms_above_eight env ⟨0, 0, 0, 0⟩ 11 (some (.ref 6)) 43 2 103 ⟨515, 0, 521, 69⟩ ⟨522, 0, 551, 15⟩ m3 (fun _ s => (os1 s).2.2.2.1) (fun _ => true) := by
  intro w
  unfold env m3 os1 Xt q
  rw [PySem.W.Fast.te4187177175401517315, PySem.W.Fast.te5923862056798008813, PySem.W.Fast.te10110043849684766642, PySem.W.Fast.te14082659384304107361, PySem.W.Fast.te14364793385576792824, PySem.W.Fast.te10731049148641486068, PySem.W.Fast.te16960278174366946017]
  kernel_rfl
theorem g5 : Hd.Gp PySem.Challenge.pw_earlyscribe_k84_rooms_above_eight env ⟨0, 0, 0, 0⟩ 11 (some (.ref 6)) 43 2 103 ⟨515, 0, 521, 69⟩ ⟨522, 0, 551, 15⟩ m3 (fun _ s => (os1 s).2.2.2.2.1) (fun _ => pinGoodD (drecsOf q)) := by
  intro w
  unfold env m3 os1 Xt q
  rw [PySem.W.Fast.te4187177175401517315, PySem.W.Fast.te5923862056798008813, PySem.W.Fast.te10110043849684766642, PySem.W.Fast.te14082659384304107361, PySem.W.Fast.te14364793385576792824, PySem.W.Fast.te10731049148641486068, PySem.W.Fast.te16960278174366946017]
  kernel_rfl
theorem g6 : Hd.Gp PySem.Challenge.pw_earlyscribe_k84_rooms_above_eight env ⟨0, 0, 0, 0⟩ 11 (some (.ref 6)) 43 2 103 ⟨515, 0, 521, 69⟩ ⟨522, 0, 551, 15⟩ m3 (fun _ s => (os1 s).2.2.2.2.2.1) (fun _ => plainGoodE q (looseW q [])) := by
  intro w
  unfold env m3 os1 Xt q
  rw [PySem.W.Fast.te4187177175401517315, PySem.W.Fast.te5923862056798008813, PySem.W.Fast.te10110043849684766642, PySem.W.Fast.te14082659384304107361, PySem.W.Fast.te14364793385576792824, PySem.W.Fast.te10731049148641486068, PySem.W.Fast.te16960278174366946017]
  kernel_rfl
theorem g7 : Hd.Gp PySem.Challenge.pw_earlyscribe_k84_rooms_above_eight env ⟨0, 0, 0, 0⟩ 11 (some (.ref 6)) 43 2 103 ⟨515, 0, 521, 69⟩ ⟨522, 0, 551, 15⟩ m3 (fun _ s => (os1 s).2.2.2.2.2.2.1) (fun _ => plainGoodD q []) := by
  intro w
  unfold env m3 os1 Xt q
  rw [PySem.W.Fast.te4187177175401517315, PySem.W.Fast.te5923862056798008813, PySem.W.Fast.te10110043849684766642, PySem.W.Fast.te14082659384304107361, PySem.W.Fast.te14364793385576792824, PySem.W.Fast.te10731049148641486068, PySem.W.Fast.te16960278174366946017]
  kernel_rfl
theorem g8 : Hd.Gp PySem.Challenge.pw_earlyscribe_k84_rooms_above_eight env ⟨0, 0, 0, 0⟩ 11 (some (.ref 6)) 43 2 103 ⟨515, 0, 521, 69⟩ ⟨522, 0, 551, 15⟩ m3 (fun _ s => (os1 s).2.2.2.2.2.2.2.1) (fun _ => wideGood q) := by
  intro w
  unfold env m3 os1 Xt q
  rw [PySem.W.Fast.te4187177175401517315, PySem.W.Fast.te5923862056798008813, PySem.W.Fast.te10110043849684766642, PySem.W.Fast.te14082659384304107361, PySem.W.Fast.te14364793385576792824, PySem.W.Fast.te10731049148641486068, PySem.W.Fast.te16960278174366946017]
  kernel_rfl
theorem g9 : Hd.Gp PySem.Challenge.pw_earlyscribe_k84_rooms_above_eight env ⟨0, 0, 0, 0⟩ 11 (some (.ref 6)) 43 2 103 ⟨515, 0, 521, 69⟩ ⟨522, 0, 551, 15⟩ m3 (fun _ s => (os1 s).2.2.2.2.2.2.2.2) (fun _ => clsGoodW q []) := by
  intro w
  unfold env m3 os1 Xt q
  rw [PySem.W.Fast.te4187177175401517315, PySem.W.Fast.te5923862056798008813, PySem.W.Fast.te10110043849684766642, PySem.W.Fast.te14082659384304107361, PySem.W.Fast.te14364793385576792824, PySem.W.Fast.te10731049148641486068, PySem.W.Fast.te16960278174366946017]
  kernel_rfl
theorem g10 : Hd.Gp PySem.Challenge.pw_earlyscribe_k84_rooms_above_eight env ⟨0, 0, 0, 0⟩ 11 (some (.ref 6)) 43 2 103 ⟨515, 0, 521, 69⟩ ⟨522, 0, 551, 15⟩ m3 (fun _ s => as.map s.heap.get?) (fun w => (K w.params).map fun x => some x.2) := by
  intro w
  unfold env m3
  rw [PySem.W.Fast.te10110043849684766642, PySem.W.Fast.te14082659384304107361, PySem.W.Fast.te14364793385576792824, PySem.W.Fast.te10731049148641486068, PySem.W.Fast.te12754154230045568370, PySem.W.Fast.te16960278174366946017]
  kernel_rfl
theorem hl : LeftO PySem.Challenge.pw_earlyscribe_k84_rooms_above_eight q [] (fun s => xlAt q [] s && recOk [] s) (fun s => as.map s.heap.get?) (fun w => (K w.params).map fun x => some x.2) 8828 := by
  exact Hd.left_last rfl rfl (fun _ => rfl) size rfl u3 (Hd.Gp.prod g0 (Hd.Gp.prod (Hd.Gp.prod g1 (Hd.Gp.prod g2 (Hd.Gp.prod g3 (Hd.Gp.prod g4 (Hd.Gp.prod g5 (Hd.Gp.prod g6 (Hd.Gp.prod g7 (Hd.Gp.prod g8 g9)))))))) g10))
end My
namespace My
open PySem PySem.Spec PyProof.Rows L2 L3
abbrev s_refuse_many_rooms : Stmt := top 38
abbrev s_two_ways : Stmt := top 54
abbrev s_made_plain : Stmt := top 82
abbrev s_two_passes : Stmt := top 97
abbrev s_law_cell_at : Stmt := top 99
abbrev s_law_mixed : Stmt := top 100
abbrev s_law_copy : Stmt := top 101
abbrev s_law_alone : Stmt := top 102
abbrev s_law : Stmt := top 103
structure Bi (mg : Str → Option Value) : Prop where
  ValueError : mg "ValueError" = none
  isinstance : mg "isinstance" = none
  len : mg "len" = none
  list : mg "list" = none
  max : mg "max" = none
  min : mg "min" = none
  range : mg "range" = none
  MOST_ROOMS_WITH_CHOICES : ∃ t, mg "MOST_ROOMS_WITH_CHOICES" = some (.int 8 t)
  ROOMS : ∃ t, mg "ROOMS" = some (.int 1 t)
structure Xb (K : PySem.W.Frag) (mg : Str → Option Value) (c_ScribeError c_NoWay c_NoRoom c_NotPlain c_OtherSigns c_TooMany c_TwoWays c_NeverPlain c_NoText : Addr) : Prop where
  nm_ScribeError : mg "ScribeError" = some (.ref c_ScribeError)
  nm_NoWay : mg "NoWay" = some (.ref c_NoWay)
  nm_NoRoom : mg "NoRoom" = some (.ref c_NoRoom)
  nm_NotPlain : mg "NotPlain" = some (.ref c_NotPlain)
  nm_OtherSigns : mg "OtherSigns" = some (.ref c_OtherSigns)
  nm_TooMany : mg "TooMany" = some (.ref c_TooMany)
  nm_TwoWays : mg "TwoWays" = some (.ref c_TwoWays)
  nm_NeverPlain : mg "NeverPlain" = some (.ref c_NeverPlain)
  nm_NoText : mg "NoText" = some (.ref c_NoText)
  own_TooMany : OwnX K mg "TooMany" c_TooMany
  xc_TooMany : XCls K c_TooMany
  cl_TooMany : Clause K mg "TooMany" c_TooMany
  sub_TooMany_TooMany : PySem.W.mroIn K c_TooMany (.ref c_TooMany) = some true
  is_TooMany_NoText : PySem.W.kitOne K (.ref c_TooMany) (.ref c_NoText) = some false
  is_TooMany_NeverPlain : PySem.W.kitOne K (.ref c_TooMany) (.ref c_NeverPlain) = some false
  is_TooMany_TwoWays : PySem.W.kitOne K (.ref c_TooMany) (.ref c_TwoWays) = some false
  is_TooMany_TooMany : PySem.W.kitOne K (.ref c_TooMany) (.ref c_TooMany) = some true
  is_TooMany_OtherSigns : PySem.W.kitOne K (.ref c_TooMany) (.ref c_OtherSigns) = some false
  is_TooMany_NotPlain : PySem.W.kitOne K (.ref c_TooMany) (.ref c_NotPlain) = some false
  is_TooMany_NoRoom : PySem.W.kitOne K (.ref c_TooMany) (.ref c_NoRoom) = some false
  is_TooMany_NoWay : PySem.W.kitOne K (.ref c_TooMany) (.ref c_NoWay) = some false
  is_TooMany_ScribeError : PySem.W.kitOne K (.ref c_TooMany) (.ref c_ScribeError) = some true
  iv_TooMany_ValueError : PySem.W.kitOne K (.ref c_TooMany) (.type "ValueError") = some true

local macro_rules | `(tactic| walk_at "side") => `(tactic| first | exact pz | exact ⟨pz, pz⟩ | exact .inr ⟨by decide, by decide⟩ | exact ⟨by omega, by omega⟩ | exact .inl ⟨by omega, by omega⟩ | exact .inr ⟨by omega, by omega⟩ | (show (0 : Int) < _; omega) | exact szl (by simp) | exact szl (by omega))
local macro_rules | `(tactic| walk_at "r") => `(tactic| first | refine ⟨_, rfl, ?_⟩ | refine ⟨_, _, rfl, rfl, ?_⟩ | refine ⟨rfl, ?_⟩ | refine ⟨by walk_at "side", ?_⟩)
local macro_rules | `(tactic| walk_at "rd") => `(tactic| repeat walk_at "r")

def isNum (lo hi : Int) (v : V) : Prop := ∃ n : Int, v = .int n ∧ lo ≤ n ∧ n ≤ hi
theorem szl' {n : Nat} (h : n ≤ 99999) : n < sizeLine := Nat.lt_of_lt_of_le (Nat.lt_succ_of_le h) (szl (by omega))
def Wd (x : Str) : Prop := x.length ≤ 40 ∧ ∀ c ∈ cl x, 97 ≤ c ∧ c ≤ 122
structure OkS (pl : Bool) (s : Scr) (n : Nat) : Prop where
  lb : s.begins.length ≤ n
  ls : s.steps.length ≤ n
  le : s.ends.length ≤ n
  mb : ∀ m ∈ s.begins, 0 ≤ m.1 ∧ m.1 < s.rooms ∧ Wd m.2
  ms : ∀ t ∈ s.steps, 0 ≤ t.1 ∧ t.1 < s.rooms ∧ (∃ c ∈ cl s.signs, t.2.1 = ⟨#[c]⟩) ∧ Wd t.2.2.1 ∧ 0 ≤ t.2.2.2 ∧ t.2.2.2 < s.rooms
  me : ∀ m ∈ s.ends, 0 ≤ m.1 ∧ m.1 < s.rooms ∧ Wd m.2
  nb : s.begins.Nodup
  ns : s.steps.Nodup
  ne : s.ends.Nodup
  pb : pl = true → s.begins.length ≤ 1
  po : pl = true → (s.steps.map fun t => (t.1, t.2.1)).Nodup
  pe : pl = true → (s.ends.map (·.1)).Nodup
theorem OkS.mono {pl : Bool} {s : Scr} {n m : Nat} (h : OkS pl s n) (le : n ≤ m) : OkS pl s m :=
  ⟨Nat.le_trans h.lb le, Nat.le_trans h.ls le, Nat.le_trans h.le le, h.mb, h.ms, h.me, h.nb, h.ns, h.ne, h.pb, h.po, h.pe⟩
theorem nodup_snoc {α : Type} {xs : List α} {x : α} (h : xs.Nodup) (hn : x ∉ xs) : (xs ++ [x]).Nodup := by
  rw [List.nodup_append]
  refine ⟨h, by simp, fun a ha b hb => ?_⟩
  rw [List.mem_singleton] at hb
  subst hb
  intro e; subst e; exact hn ha
theorem OkS.begin {pl : Bool} {g : Str} {r : Int} {B : List Mk} {S : List Stp} {E : List Mk} {n : Nat} (h : OkS pl ⟨g, r, B, S, E⟩ n) {i : Int} {x : Str} (h0 : 0 ≤ i) (h1 : i < r) (hw : Wd x) (hn : (i, x) ∉ B) (hp : pl = true → B.length = 0) : OkS pl ⟨g, r, B ++ [(i, x)], S, E⟩ (n + 1) := by
  have ha := h.mono (Nat.le_succ n)
  refine ⟨?_, ha.ls, ha.le, fun m hm => ?_, h.ms, h.me, nodup_snoc h.nb hn, h.ns, h.ne, fun q => ?_, h.po, h.pe⟩
  · show (B ++ [(i, x)]).length ≤ n + 1
    have : B.length ≤ n := h.lb
    rw [List.length_append, List.length_singleton]; omega
  · rcases List.mem_append.mp hm with hm | hm
    · exact h.mb m hm
    · rw [List.mem_singleton.mp hm]; exact ⟨h0, h1, hw⟩
  · show (B ++ [(i, x)]).length ≤ 1
    rw [List.length_append, hp q, List.length_singleton]; omega
theorem OkS.end_ {pl : Bool} {g : Str} {r : Int} {B : List Mk} {S : List Stp} {E : List Mk} {n : Nat} (h : OkS pl ⟨g, r, B, S, E⟩ n) {i : Int} {x : Str} (h0 : 0 ≤ i) (h1 : i < r) (hw : Wd x) (hn : (i, x) ∉ E) (hp : pl = true → ∀ m ∈ E, m.1 ≠ i) : OkS pl ⟨g, r, B, S, E ++ [(i, x)]⟩ (n + 1) := by
  have ha := h.mono (Nat.le_succ n)
  refine ⟨ha.lb, ha.ls, ?_, h.mb, h.ms, fun m hm => ?_, h.nb, h.ns, nodup_snoc h.ne hn, h.pb, h.po, fun q => ?_⟩
  · show (E ++ [(i, x)]).length ≤ n + 1
    have : E.length ≤ n := h.le
    rw [List.length_append, List.length_singleton]; omega
  · rcases List.mem_append.mp hm with hm | hm
    · exact h.me m hm
    · rw [List.mem_singleton.mp hm]; exact ⟨h0, h1, hw⟩
  · show ((E ++ [(i, x)]).map (·.1)).Nodup
    rw [List.map_append]
    refine nodup_snoc (h.pe q) fun hm => ?_
    obtain ⟨m, hm, e⟩ := List.mem_map.mp hm
    exact hp q m hm e
theorem OkS.step {pl : Bool} {g : Str} {r : Int} {B : List Mk} {S : List Stp} {E : List Mk} {n : Nat} (h : OkS pl ⟨g, r, B, S, E⟩ n) {i j : Int} {y x : Str} (h0 : 0 ≤ i) (h1 : i < r) (hy : ∃ c ∈ cl g, y = ⟨#[c]⟩) (hw : Wd x) (h2 : 0 ≤ j) (h3 : j < r) (hn : (i, y, x, j) ∉ S) (hp : pl = true → ∀ t ∈ S, ¬ (t.1 = i ∧ t.2.1 = y)) :
    OkS pl ⟨g, r, B, S ++ [(i, y, x, j)], E⟩ (n + 1) := by
  have ha := h.mono (Nat.le_succ n)
  refine ⟨ha.lb, ?_, ha.le, h.mb, fun t ht => ?_, h.me, h.nb, nodup_snoc h.ns hn, h.ne, h.pb, fun q => ?_, h.pe⟩
  · show (S ++ [(i, y, x, j)]).length ≤ n + 1
    have : S.length ≤ n := h.ls
    rw [List.length_append, List.length_singleton]; omega
  · rcases List.mem_append.mp ht with hm | hm
    · exact h.ms t hm
    · rw [List.mem_singleton.mp hm]; exact ⟨h0, h1, hy, hw, h2, h3⟩
  · show ((S ++ [(i, y, x, j)]).map fun t => (t.1, t.2.1)).Nodup
    rw [List.map_append]
    refine nodup_snoc (h.po q) fun hm => ?_
    obtain ⟨t, hm, e⟩ := List.mem_map.mp hm
    injection e with e1 e2
    exact hp q t hm ⟨e1, e2⟩
def HI (K : PySem.W.Frag) (H0 : Hp) (pb ps pe : Addr) (pl : Bool) (g : Str) (r : Int) (n : Nat) (H : Hp) : Prop := ∃ B S E xb xs xe, Same H0 H ∧ H pb = some (.lst xb) ∧ H ps = some (.lst xs) ∧ H pe = some (.lst xe) ∧
  Paired (MkV K H) B xb ∧ Paired (StV K H) S xs ∧ Paired (MkV K H) E xe ∧ OkS pl ⟨g, r, B, S, E⟩ n
theorem same_updN {H0 H : Hp} {p : Addr} {o : HO} (g : Same H0 H) (h : H0 p = none) : Same H0 (upd H p o) := fun b u q => by rw [upd_ne (ne_of_none q h)]; exact g b u q
theorem HI.mono {K : PySem.W.Frag} {H0 H H' : Hp} {pb ps pe : Addr} {pl : Bool} {g : Str} {r : Int} {n m : Nat} (h : HI K H0 pb ps pe pl g r n H) (s : Same H H') (le : n ≤ m) : HI K H0 pb ps pe pl g r m H' := by
  obtain ⟨B, S, E, xb, xs, xe, h1, h2, h3, h4, h5, h6, h7, h8⟩ := h
  have g' := Same.grow s
  exact ⟨B, S, E, xb, xs, xe, h1.trans s, s _ _ h2, s _ _ h3, s _ _ h4, paired_mono (fun _ _ => MkV.mono g') h5, paired_mono (fun _ _ => StV.mono g') h6, paired_mono (fun _ _ => MkV.mono g') h7, h8.mono le⟩
structure Apart (H0 : Hp) (pb ps pe : Addr) : Prop where
  nb : H0 pb = none
  ns : H0 ps = none
  ne : H0 pe = none
  bs : pb ≠ ps
  be : pb ≠ pe
  se : ps ≠ pe
def cellAt (ns : List Int) (k : Int) : Int := if k < ns.length then (ns[k.toNat]?).getD 0 else 0
def spCell (K : PySem.W.Frag) : Sp := fun vs H Q _ => ∃ (a : Addr) (ns : List Int) (k : Int), vs = [.ref a, .int k] ∧ SqL K H a (ns.map V.int) ∧ 0 ≤ k ∧ Q (.int (cellAt ns k)) H
def ScN (K : PySem.W.Frag) (H : Hp) (s : Scr) (v : V) (pb ps pe : Addr) : Prop := ∃ a xb xs xe, v = .ref a ∧ SqT K H a [.str s.signs, .int s.rooms, .ref pb, .ref ps, .ref pe] ∧ H pb = some (.lst xb) ∧ H ps = some (.lst xs) ∧ H pe = some (.lst xe) ∧
  Paired (MkV K H) s.begins xb ∧ Paired (StV K H) s.steps xs ∧ Paired (MkV K H) s.ends xe
theorem ScN.v {K : PySem.W.Frag} {H : Hp} {s : Scr} {v : V} {pb ps pe : Addr} : ScN K H s v pb ps pe → ScV K H s v pb ps pe
  | ⟨a, xb, xs, xe, e, h1, h2, h3, h4, h5, h6, h7⟩ => ⟨a, xb, xs, xe, e, h1, SqL.of h2, SqL.of h3, SqL.of h4, h5, h6, h7⟩
def spCopied (K : PySem.W.Frag) : Sp := fun vs H Q _ => ∃ v s pb ps pe, vs = [v] ∧ ScV K H s v pb ps pe ∧ ∀ v' H' pb' ps' pe', Same H H' → ScN K H' s v' pb' ps' pe' → Apart H pb' ps' pe' → Q v' H'

theorem iteB {b : Bool} {A B : Prop} (h1 : b = true → A) (h2 : b = false → B) : if b = true then A else B := by
  cases b
  · exact iteF (h2 rfl)
  · exact iteT (h1 rfl)
theorem HI.addStep {K : PySem.W.Frag} {H0 H : Hp} {pb ps pe : Addr} {pl : Bool} {g : Str} {r : Int} {n : Nat} {B : List Mk} {S : List Stp} {E : List Mk} {xb xs xe : List V} {t : Stp} {v : V} (A : Apart H0 pb ps pe) (h1 : Same H0 H) (h2 : H pb = some (.lst xb)) (h3 : H ps = some (.lst xs)) (h4 : H pe = some (.lst xe))
    (h5 : Paired (MkV K H) B xb) (h6 : Paired (StV K H) S xs) (h7 : Paired (MkV K H) E xe) (h8 : OkS pl ⟨g, r, B, S ++ [t], E⟩ n) (hv : StV K H t v) : HI K H0 pb ps pe pl g r n (upd H ps (.lst (xs ++ [v]))) := by
  have gr := grow_upd h3 (.lst (xs ++ [v]))
  exact ⟨B, S ++ [t], E, xb, xs ++ [v], xe, same_updN h1 A.ns, by rw [upd_ne A.bs]; exact h2, upd_same, by rw [upd_ne A.se.symm]; exact h4, paired_mono (fun _ _ => MkV.mono gr) h5,
    paired_append (paired_mono (fun _ _ => StV.mono gr) h6) (.cons (StV.mono gr hv) .nil), paired_mono (fun _ _ => MkV.mono gr) h7, h8⟩
theorem HI.addEnd {K : PySem.W.Frag} {H0 H : Hp} {pb ps pe : Addr} {pl : Bool} {g : Str} {r : Int} {n : Nat} {B : List Mk} {S : List Stp} {E : List Mk} {xb xs xe : List V} {t : Mk} {v : V} (A : Apart H0 pb ps pe) (h1 : Same H0 H) (h2 : H pb = some (.lst xb)) (h3 : H ps = some (.lst xs)) (h4 : H pe = some (.lst xe))
    (h5 : Paired (MkV K H) B xb) (h6 : Paired (StV K H) S xs) (h7 : Paired (MkV K H) E xe) (h8 : OkS pl ⟨g, r, B, S, E ++ [t]⟩ n) (hv : MkV K H t v) : HI K H0 pb ps pe pl g r n (upd H pe (.lst (xe ++ [v]))) := by
  have gr := grow_upd h4 (.lst (xe ++ [v]))
  exact ⟨B, S, E ++ [t], xb, xs, xe ++ [v], same_updN h1 A.ne, by rw [upd_ne A.be]; exact h2, by rw [upd_ne A.se]; exact h3, upd_same, paired_mono (fun _ _ => MkV.mono gr) h5,
    paired_mono (fun _ _ => StV.mono gr) h6, paired_append (paired_mono (fun _ _ => MkV.mono gr) h7) (.cons (MkV.mono gr hv) .nil), h8⟩
theorem HI.addBegin {K : PySem.W.Frag} {H0 H : Hp} {pb ps pe : Addr} {pl : Bool} {g : Str} {r : Int} {n : Nat} {B : List Mk} {S : List Stp} {E : List Mk} {xb xs xe : List V} {t : Mk} {v : V} (A : Apart H0 pb ps pe) (h1 : Same H0 H) (h2 : H pb = some (.lst xb)) (h3 : H ps = some (.lst xs)) (h4 : H pe = some (.lst xe))
    (h5 : Paired (MkV K H) B xb) (h6 : Paired (StV K H) S xs) (h7 : Paired (MkV K H) E xe) (h8 : OkS pl ⟨g, r, B ++ [t], S, E⟩ n) (hv : MkV K H t v) : HI K H0 pb ps pe pl g r n (upd H pb (.lst (xb ++ [v]))) := by
  have gr := grow_upd h2 (.lst (xb ++ [v]))
  exact ⟨B ++ [t], S, E, xb ++ [v], xs, xe, same_updN h1 A.nb, upd_same, by rw [upd_ne A.bs.symm]; exact h3, by rw [upd_ne A.be.symm]; exact h4, paired_append (paired_mono (fun _ _ => MkV.mono gr) h5) (.cons (MkV.mono gr hv) .nil),
    paired_mono (fun _ _ => StV.mono gr) h6, paired_mono (fun _ _ => MkV.mono gr) h7, h8⟩
theorem notIn_mk {K : PySem.W.Frag} {H : Hp} {E : List Mk} {xe : List V} {m : Mk} (h : Paired (MkV K H) E xe) : Reps K H (E.map dMk) xe := reps_of (f := dMk) (F := MkV K H) (fun _ _ h => MkV.rep h) h
theorem reps_st {K : PySem.W.Frag} {H : Hp} {E : List Stp} {xe : List V} (h : Paired (StV K H) E xe) : Reps K H (E.map dSt) xe := reps_of (f := dSt) (F := StV K H) (fun _ _ h => StV.rep h) h
theorem take_get {α : Type} {xs : List α} {i : Nat} {x : α} (h : xs[i]? = some x) : xs.take (i + 1) = xs.take i ++ [x] := by rw [List.take_add_one, h]; rfl

def inR (n : Nat) (i : Int) : Prop := 0 ≤ i ∧ i < n
instance (n : Nat) (i : Int) : Decidable (inR n i) := inferInstanceAs (Decidable (_ ∧ _))
theorem bt_ValueError : bootBuiltins "ValueError" = some (.type "ValueError") := by decide +kernel

def spMixed : Sp := fun vs H Q _ => ∃ c k : Int, vs = [.int c, .int k] ∧ ∀ n : Int, 0 ≤ n → n < 2147483587 → Q (.int n) H
def spMany (K : PySem.W.Frag) (c : Addr) : Sp := fun vs H Q E => ∃ v s pb ps pe, vs = [v] ∧ ScV K H s v pb ps pe ∧ 8 < s.rooms ∧ E (.ref c) none H
def spAlone (K : PySem.W.Frag) (c : Addr) : Sp := fun vs H Q _ => ∃ x, vs = [.ref x] ∧ H x = some (Exc x c) ∧ ∀ H', Same H H' → Q (.bl true) H'
def bsA : List Bool := [false, false, false, false, true, false, false, false]
theorem wd_ab (j : Int) : Wd (Txt.slice "ab" none (some j)) := ⟨Nat.le_trans (Txt.slice_le _ _ _) (by decide +kernel), fun c hc => by
  rw [cl_slice] at hc
  exact (by decide +kernel : ∀ c ∈ cl ("ab" : Str), 97 ≤ c ∧ c ≤ 122) c (List.mem_of_mem_drop (List.mem_of_mem_take hc))⟩
theorem ab_ba : ∀ c ∈ cl ("ab" : Str), c ∈ cl ("ba" : Str) := by decide +kernel
theorem ab_len : ("ab" : Str).length = 2 := by decide +kernel
def spLaw (K : PySem.W.Frag) : Sp := fun vs H Q _ => ∃ (a : Addr) (ns : List Int), vs = [.ref a] ∧ SqL K H a (ns.map V.int) ∧ ns.length ≤ 63 ∧ ∀ H', Q (.bl true) H'

section
seal L2.PE L2.PT L2.PW L2.PA L2.PS L2.PSs L2.PC L2.PG L2.PGs L2.PI L2.PO
variable {P : Program} {w : World} {K : PySem.W.Frag} {mg : Str → Option Value} {base : Heap}
theorem sc_refuse_many_rooms : FnScope ["scribe"] ["scribe"] (defScope s_refuse_many_rooms) := ⟨rfl, rfl, rfl, by decide +kernel, rfl, by decide +kernel, by decide +kernel⟩
theorem ok_refuse_many_rooms (B : Bi mg) {c_ScribeError c_NoWay c_NoRoom c_NotPlain c_OtherSigns c_TooMany c_TwoWays c_NeverPlain c_NoText : Addr} (XB : Xb K mg c_ScribeError c_NoWay c_NoRoom c_NotPlain c_OtherSigns c_TooMany c_TwoWays c_NeverPlain c_NoText)  {f : Addr} {fd : FuncData} (F : Fun K "refuse_many_rooms" "refuse_many_rooms" s_refuse_many_rooms f fd) : FnOk P w K mg base (CX1 P w) 1 f fd ["scribe"] (spMany K c_TooMany) := by
  refine Fun.ok1 F sc_refuse_many_rooms (fun vs H Q E h => ?_) (fun cdv A outer s H vs Q E hr h => ?_)
  · obtain ⟨v, s, pb, ps, pe, rfl, _⟩ := h; rfl
  obtain ⟨v, s, pb, ps, pe, rfl, hV, h8, hE⟩ := h
  refine ⟨_, (pss_one (ps_if (pt_cmpR op_gt (pe_ix (kIx (K := K) rIxT ix_tup) (pv 0) (pe_globI (by rfl) B.ROOMS) (by intro _ _; rfl)) (pe_globI (by rfl) B.MOST_ROOMS_WITH_CHOICES) (nomark _)) (pss_one (ps_raise XB.own_TooMany (by rfl) (by rfl) raise_on pe_str)) pss_nil)), ?_⟩
  obtain ⟨a, xb, xs, xe, rfl, h1, h2, h3, h4, h5, h6, h7⟩ := hV
  exact ⟨_, rfl, _, _, _, _, rfl, rfl, h1, rfl, _, _, rfl, rfl, _, rfl, iteDd (fun c => ⟨rfl, hE⟩) (fun c => absurd h8 (by omega))⟩

theorem sc_two_ways : FnScope ["scribe", "double", "way"] ["scribe"] (defScope s_two_ways) := ⟨rfl, rfl, rfl, by decide +kernel, rfl, by decide +kernel, by decide +kernel⟩
theorem ok_two_ways (B : Bi mg) {c_ScribeError c_NoWay c_NoRoom c_NotPlain c_OtherSigns c_TooMany c_TwoWays c_NeverPlain c_NoText : Addr} (XB : Xb K mg c_ScribeError c_NoWay c_NoRoom c_NotPlain c_OtherSigns c_TooMany c_TwoWays c_NeverPlain c_NoText) (C_refuse_many_rooms : Cal1 P w K mg base "refuse_many_rooms" ["scribe"] 1 (spMany K c_TooMany)) {f : Addr} {fd : FuncData} (F : Fun K "two_ways" "two_ways" s_two_ways f fd) : FnOk P w K mg base (CX1 P w) 2 f fd ["scribe"] (spMany K c_TooMany) := by
  refine Fun.ok1 F sc_two_ways (fun vs H Q E h => ?_) (fun cdv A outer s H vs Q E hr h => ?_)
  · obtain ⟨v, s, pb, ps, pe, rfl, _⟩ := h; rfl
  obtain ⟨v, s, pb, ps, pe, rfl, hV, h8, hE⟩ := h
  refine ⟨_, (pss_cons (ps_expr (pe_fn1 C_refuse_many_rooms hr (by decide : 1 ≤ 1) (by rfl) pass_on (pa_cons (pv 0) pa_nil)))
      pss_any), ?_⟩
  exact ⟨_, rfl, v, s, pb, ps, pe, rfl, hV, h8, hE⟩

theorem sc_made_plain : FnScope ["scribe", "ways", "rounds", "trimmed"] ["scribe"] (defScope s_made_plain) := ⟨rfl, rfl, rfl, by decide +kernel, rfl, by decide +kernel, by decide +kernel⟩
theorem ok_made_plain (B : Bi mg) {c_ScribeError c_NoWay c_NoRoom c_NotPlain c_OtherSigns c_TooMany c_TwoWays c_NeverPlain c_NoText : Addr} (XB : Xb K mg c_ScribeError c_NoWay c_NoRoom c_NotPlain c_OtherSigns c_TooMany c_TwoWays c_NeverPlain c_NoText) (C_two_ways : Cal1 P w K mg base "two_ways" ["scribe"] 2 (spMany K c_TooMany)) {f : Addr} {fd : FuncData} (F : Fun K "made_plain" "made_plain" s_made_plain f fd) : FnOk P w K mg base (CX1 P w) 3 f fd ["scribe"] (spMany K c_TooMany) := by
  refine Fun.ok1 F sc_made_plain (fun vs H Q E h => ?_) (fun cdv A outer s H vs Q E hr h => ?_)
  · obtain ⟨v, s, pb, ps, pe, rfl, _⟩ := h; rfl
  obtain ⟨v, s, pb, ps, pe, rfl, hV, h8, hE⟩ := h
  refine ⟨_, (pss_cons (ps_set (i := 1) sc_made_plain.nd rfl (Or.inl rfl) (pe_fn1 C_two_ways hr (by decide : 2 ≤ 2) (by rfl) pass_on (pa_cons (pv 0) pa_nil)))
      pss_any), ?_⟩
  exact ⟨_, rfl, v, s, pb, ps, pe, rfl, hV, h8, hE⟩

theorem sc_two_passes : FnScope ["scribe", "told", "sets", "letters", "forth"] ["scribe"] (defScope s_two_passes) := ⟨rfl, rfl, rfl, by decide +kernel, rfl, by decide +kernel, by decide +kernel⟩
theorem ok_two_passes (B : Bi mg) {c_ScribeError c_NoWay c_NoRoom c_NotPlain c_OtherSigns c_TooMany c_TwoWays c_NeverPlain c_NoText : Addr} (XB : Xb K mg c_ScribeError c_NoWay c_NoRoom c_NotPlain c_OtherSigns c_TooMany c_TwoWays c_NeverPlain c_NoText) (C_refuse_many_rooms : Cal1 P w K mg base "refuse_many_rooms" ["scribe"] 1 (spMany K c_TooMany)) {f : Addr} {fd : FuncData} (F : Fun K "two_passes" "two_passes" s_two_passes f fd) : FnOk P w K mg base (CX1 P w) 2 f fd ["scribe"] (spMany K c_TooMany) := by
  refine Fun.ok1 F sc_two_passes (fun vs H Q E h => ?_) (fun cdv A outer s H vs Q E hr h => ?_)
  · obtain ⟨v, s, pb, ps, pe, rfl, _⟩ := h; rfl
  obtain ⟨v, s, pb, ps, pe, rfl, hV, h8, hE⟩ := h
  refine ⟨_, (pss_cons (ps_expr (pe_fn1 C_refuse_many_rooms hr (by decide : 1 ≤ 1) (by rfl) pass_on (pa_cons (pv 0) pa_nil)))
      pss_any), ?_⟩
  exact ⟨_, rfl, v, s, pb, ps, pe, rfl, hV, h8, hE⟩

theorem sc_law_cell_at : FnScope ["_law_script", "_law_k"] ["_law_script", "_law_k"] (defScope s_law_cell_at) := ⟨rfl, rfl, rfl, by decide +kernel, rfl, by decide +kernel, by decide +kernel⟩
theorem ok_law_cell_at (B : Bi mg) {c_ScribeError c_NoWay c_NoRoom c_NotPlain c_OtherSigns c_TooMany c_TwoWays c_NeverPlain c_NoText : Addr} (XB : Xb K mg c_ScribeError c_NoWay c_NoRoom c_NotPlain c_OtherSigns c_TooMany c_TwoWays c_NeverPlain c_NoText)  {f : Addr} {fd : FuncData} (F : Fun K "_law_cell_at" "_law_cell_at" s_law_cell_at f fd) : FnOk P w K mg base CX0 1 f fd ["_law_script", "_law_k"] (spCell K) := by
  refine F.ok sc_law_cell_at (fun vs H Q E h => ?_) (fun cdv A outer s H vs Q E hr h => ?_)
  · obtain ⟨a, ns, k, rfl, _⟩ := h; rfl
  obtain ⟨a, ns, k, rfl, hS, hk, q⟩ := h
  refine ⟨_, (pss_cons (ps_if (pt_cmpR op_lt (pv 1) (pe_callB (kLen (K := K)) (by rfl) B.len bt_len (pa_cons (pv 0) pa_nil)) (nomark _)) (pss_one (ps_ret (pe_ix (kIx (K := K) rIxL ix_list) (pv 0) (pv 1) (by intro _ _; rfl)))) pss_nil)
      (pss_one (ps_ret pe_int))), ?_⟩
  refine ⟨_, rfl, _, rfl, a, _, rfl, .inl hS, _, _, rfl, rfl, _, rfl, ?_⟩
  rw [List.length_map]
  refine iteDd (fun c => ?_) (fun c => ?_)
  · obtain ⟨v, h1, h2⟩ := at_some (xs := ns) hk c
    refine ⟨_, rfl, _, rfl, a, _, _, .int v, rfl, rfl, hS, ?_, ?_⟩
    · obtain ⟨j, rfl⟩ := Int.eq_ofNat_of_zero_le hk
      exact atI_nat (by rw [List.getElem?_map]; rw [Int.toNat_natCast] at h2; rw [h2]; rfl)
    · have e : cellAt ns k = v := by unfold cellAt; rw [if_pos c, h2]; rfl
      rw [← e]; exact q
  · have e : cellAt ns k = 0 := by unfold cellAt; rw [if_neg c]
    rw [e] at q
    exact q

theorem sc_law_mixed : FnScope ["_law_cell", "_law_k", "_law_number"] ["_law_cell", "_law_k"] (defScope s_law_mixed) := ⟨rfl, rfl, rfl, by decide +kernel, rfl, by decide +kernel, by decide +kernel⟩
theorem ok_law_mixed (B : Bi mg) {c_ScribeError c_NoWay c_NoRoom c_NotPlain c_OtherSigns c_TooMany c_TwoWays c_NeverPlain c_NoText : Addr} (XB : Xb K mg c_ScribeError c_NoWay c_NoRoom c_NotPlain c_OtherSigns c_TooMany c_TwoWays c_NeverPlain c_NoText)  {f : Addr} {fd : FuncData} (F : Fun K "_law_mixed" "_law_mixed" s_law_mixed f fd) : FnOk P w K mg base CX0 1 f fd ["_law_cell", "_law_k"] (spMixed) := by
  refine F.ok sc_law_mixed (fun vs H Q E h => ?_) (fun cdv A outer s H vs Q E hr h => ?_)
  · obtain ⟨c, k, rfl, _⟩ := h; rfl
  obtain ⟨c, k, rfl, q⟩ := h
  refine ⟨_, (pss_cons (ps_set (i := 2) sc_law_mixed.nd rfl (Or.inl rfl) (pe_abs (pe_op op_mod (pe_op op_add (pe_op op_add (pe_op op_mul (pe_op op_mod (pv 0) pe_int) pe_int) (pe_op op_mul (pv 1) pe_int)) pe_int) pe_int)))
      (pss_cons (ps_set (i := 2) sc_law_mixed.nd rfl (Or.inl rfl) (pe_abs (pe_op op_mod (pe_op op_mul (pv 2) (pv 2)) pe_int)))
      (pss_one (ps_ret (pe_op op_mod (pe_op op_mul (pv 2) (pv 2)) pe_int))))), ?_⟩
  refine ⟨fun v H' => H = H' ∧ isNum 0 2147483647 v, ⟨_, rfl, _, _, rfl, rfl, pz, _, _, rfl, rfl, .inr ⟨by decide, by decide⟩, _, rfl, _, _, rfl, rfl, .inr ⟨by decide, by decide⟩, _, _, rfl, rfl, _, _, rfl, rfl, _, _, rfl, rfl, pz, rfl, _, rfl, by omega, by omega⟩, ?_⟩
  rintro _ _ ⟨rfl, n, rfl, h0, h1⟩
  refine ⟨fun v H' => H = H' ∧ isNum 0 2147483647 v, ⟨_, rfl, _, rfl, _, _, rfl, rfl, .inl ⟨by omega, by omega⟩, _, _, rfl, rfl, pz, rfl, _, rfl, by omega, by omega⟩, ?_⟩
  rintro _ _ ⟨rfl, m, rfl, h2, h3⟩
  exact ⟨_, rfl, _, rfl, _, _, rfl, rfl, .inl ⟨by omega, by omega⟩, _, _, rfl, rfl, pz, q _ (Int.emod_nonneg _ (by decide)) (Int.emod_lt_of_pos _ (by decide))⟩

theorem sc_law_copy : FnScope ["_law_scribe"] ["_law_scribe"] (defScope s_law_copy) := ⟨rfl, rfl, rfl, by decide +kernel, rfl, by decide +kernel, by decide +kernel⟩
theorem ok_law_copy (B : Bi mg) {c_ScribeError c_NoWay c_NoRoom c_NotPlain c_OtherSigns c_TooMany c_TwoWays c_NeverPlain c_NoText : Addr} (XB : Xb K mg c_ScribeError c_NoWay c_NoRoom c_NotPlain c_OtherSigns c_TooMany c_TwoWays c_NeverPlain c_NoText)  {f : Addr} {fd : FuncData} (F : Fun K "_law_copy" "_law_copy" s_law_copy f fd) : FnOk P w K mg base CX0 1 f fd ["_law_scribe"] (spCopied K) := by
  refine F.ok sc_law_copy (fun vs H Q E h => ?_) (fun cdv A outer s H vs Q E hr h => ?_)
  · obtain ⟨v, s, pb, ps, pe, rfl, _⟩ := h; rfl
  obtain ⟨v, s, pb, ps, pe, rfl, hV, q⟩ := h
  refine ⟨_, (pss_one (ps_ret (pe_tup (pa_cons (pe_ix (kIx (K := K) rIxT ix_tup) (pv 0) pe_int (by intro _ _; rfl)) (pa_cons (pe_ix (kIx (K := K) rIxT ix_tup) (pv 0) pe_int (by intro _ _; rfl)) (pa_cons (pe_callTy (kCall (K := K) rLo call_list_of) (by rfl) B.list bt_list (pa_cons (pe_ix (kIx (K := K) rIxT ix_tup) (pv 0) pe_int (by intro _ _; rfl)) pa_nil)) (pa_cons (pe_callTy (kCall (K := K) rLo call_list_of) (by rfl) B.list bt_list (pa_cons (pe_ix (kIx (K := K) rIxT ix_tup) (pv 0) pe_int (by intro _ _; rfl)) pa_nil)) (pa_cons (pe_callTy (kCall (K := K) rLo call_list_of) (by rfl) B.list bt_list (pa_cons (pe_ix (kIx (K := K) rIxT ix_tup) (pv 0) pe_int (by intro _ _; rfl)) pa_nil)) pa_nil)))))))), ?_⟩
  obtain ⟨a, xb, xs, xe, rfl, h1, h2, h3, h4, h5, h6, h7⟩ := hV
  refine ⟨_, rfl, _, _, _, _, rfl, rfl, h1, rfl, _, rfl, _, _, _, _, rfl, rfl, h1, rfl, _, rfl, _, _, _, _, rfl, rfl, h1, rfl, pb, xb, rfl, .inl h2, fun qb hqb => ?_⟩
  have g1 := same_new hqb (.lst xb)
  refine ⟨_, rfl, _, _, _, _, rfl, rfl, Same.seqT g1 h1, rfl, ps, xs, rfl, .inl (g1.seq h3), fun qs hqs => ?_⟩
  have g2 := g1.trans (same_new hqs (.lst xs))
  refine ⟨_, rfl, _, _, _, _, rfl, rfl, Same.seqT g2 h1, rfl, pe, xe, rfl, .inl (g2.seq h4), fun qe hqe => ⟨(by show 5 ≤ sizeLine; decide), fun v hv => ?_⟩⟩
  have g3 := g2.trans (same_new hqe (.lst xe))
  have gv := same_new hv (.tup [V.str s.signs, V.int s.rooms, V.ref qb, V.ref qs, V.ref qe])
  have hqs' : H qs = none := g1.free hqs
  have hqe' : upd H qb (.lst xb) qe = none := (same_new hqs (.lst xs)).free hqe
  have AP : Apart H qb qs qe := ⟨hqb, hqs', g1.free hqe', ne_of_none upd_same hqs, ne_of_none upd_same hqe', ne_of_none upd_same hqe⟩
  have eb : upd (upd (upd H qb (.lst xb)) qs (.lst xs)) qe (.lst xe) qb = some (.lst xb) := by rw [upd_ne AP.be, upd_ne AP.bs]; exact upd_same
  have es : upd (upd (upd H qb (.lst xb)) qs (.lst xs)) qe (.lst xe) qs = some (.lst xs) := by rw [upd_ne AP.se]; exact upd_same
  have ee : upd (upd (upd H qb (.lst xb)) qs (.lst xs)) qe (.lst xe) qe = some (.lst xe) := upd_same
  have G := Same.grow (g3.trans gv)
  exact q _ _ qb qs qe (g3.trans gv) ⟨v, xb, xs, xe, rfl, SqT.of upd_same, gv _ _ eb, gv _ _ es, gv _ _ ee, paired_mono (fun _ _ => MkV.mono G) h5, paired_mono (fun _ _ => StV.mono G) h6, paired_mono (fun _ _ => MkV.mono G) h7⟩ AP

theorem sc_law_alone : FnScope ["_law_error", "_law_told"] ["_law_error"] (defScope s_law_alone) := ⟨rfl, rfl, rfl, by decide +kernel, rfl, by decide +kernel, by decide +kernel⟩
theorem ok_law_alone (B : Bi mg) {c_ScribeError c_NoWay c_NoRoom c_NotPlain c_OtherSigns c_TooMany c_TwoWays c_NeverPlain c_NoText : Addr} (XB : Xb K mg c_ScribeError c_NoWay c_NoRoom c_NotPlain c_OtherSigns c_TooMany c_TwoWays c_NeverPlain c_NoText)  {f : Addr} {fd : FuncData} (F : Fun K "_law_alone" "_law_alone" s_law_alone f fd) : FnOk P w K mg base CX0 1 f fd ["_law_error"] (spAlone K c_TooMany) := by
  refine F.ok sc_law_alone (fun vs H Q E h => ?_) (fun cdv A outer s H vs Q E hr h => ?_)
  · obtain ⟨x, rfl, _⟩ := h; rfl
  obtain ⟨x, rfl, hx, q⟩ := h
  refine ⟨_, (pss_cons (ps_if (PW.pt (pw_or (pt_not (pt_val (pe_callB (kCall (K := K) rIsX call_isinstX) (by rfl) B.isinstance bt_isinstance (pa_cons (pv 0) (pa_cons (pe_globC (by rfl) XB.nm_ScribeError) pa_nil))))) (pw_or1 (pt_not (pt_val (pe_callB (kCall (K := K) rIsX call_isinstX) (by rfl) B.isinstance bt_isinstance (pa_cons (pv 0) (pa_cons (pe_ty (by rfl) B.ValueError bt_ValueError) pa_nil)))))))) (pss_one (ps_ret pe_bl)) pss_nil)
      (pss_cons (ps_set (i := 1) sc_law_alone.nd rfl (Or.inl rfl) (pe_lst (pa_cons (pe_callB (kCall (K := K) rIsX call_isinstX) (by rfl) B.isinstance bt_isinstance (pa_cons (pv 0) (pa_cons (pe_globC (by rfl) XB.nm_NoWay) pa_nil))) (pa_cons (pe_callB (kCall (K := K) rIsX call_isinstX) (by rfl) B.isinstance bt_isinstance (pa_cons (pv 0) (pa_cons (pe_globC (by rfl) XB.nm_NoRoom) pa_nil))) (pa_cons (pe_callB (kCall (K := K) rIsX call_isinstX) (by rfl) B.isinstance bt_isinstance (pa_cons (pv 0) (pa_cons (pe_globC (by rfl) XB.nm_NotPlain) pa_nil))) pa_nil)))))
      (pss_cons (ps_set (i := 1) sc_law_alone.nd rfl (Or.inl rfl) (pe_op op_cat (pv 1) (pe_lst (pa_cons (pe_callB (kCall (K := K) rIsX call_isinstX) (by rfl) B.isinstance bt_isinstance (pa_cons (pv 0) (pa_cons (pe_globC (by rfl) XB.nm_OtherSigns) pa_nil))) (pa_cons (pe_callB (kCall (K := K) rIsX call_isinstX) (by rfl) B.isinstance bt_isinstance (pa_cons (pv 0) (pa_cons (pe_globC (by rfl) XB.nm_TooMany) pa_nil))) (pa_cons (pe_callB (kCall (K := K) rIsX call_isinstX) (by rfl) B.isinstance bt_isinstance (pa_cons (pv 0) (pa_cons (pe_globC (by rfl) XB.nm_TwoWays) pa_nil))) pa_nil))))))
      (pss_cons (ps_set (i := 1) sc_law_alone.nd rfl (Or.inl rfl) (pe_op op_cat (pv 1) (pe_lst (pa_cons (pe_callB (kCall (K := K) rIsX call_isinstX) (by rfl) B.isinstance bt_isinstance (pa_cons (pv 0) (pa_cons (pe_globC (by rfl) XB.nm_NeverPlain) pa_nil))) (pa_cons (pe_callB (kCall (K := K) rIsX call_isinstX) (by rfl) B.isinstance bt_isinstance (pa_cons (pv 0) (pa_cons (pe_globC (by rfl) XB.nm_NoText) pa_nil))) pa_nil)))))
      (pss_one (ps_ret (pe_cmpR op_eq (pe_callB (kLen (K := K)) (by rfl) B.len bt_len (pa_cons (pe_comp rfl (blk_mk (N' := ["_law_one"]) (js := [none]) rfl (by decide +kernel) rfl (by decide +kernel) rfl rfl) (kPI (K := K) (fun k => iList k _) (pi_list (pv 1))) (fun _ _ _ _ _ => (pg_name (i := 0) (show List.Nodup (["_law_one"] : List Str) by decide +kernel) rfl (Or.inl rfl))) (fun _ _ _ _ _ => (pf_one (pt_val (pv 0)))) (fun _ _ _ _ _ => (pv 0))) pa_nil)) pe_int (nomark _)))))))), ?_⟩
  refine ⟨_, rfl, x, c_TooMany, _, _, _, rfl, hx, XB.xc_TooMany, rfl, XB.is_TooMany_ScribeError, _, rfl, iteF ?_⟩
  refine ⟨_, rfl, x, c_TooMany, _, _, _, rfl, hx, XB.xc_TooMany, rfl, XB.iv_TooMany_ValueError, _, rfl, iteF ?_⟩
  refine ⟨_, rfl, x, c_TooMany, _, _, _, rfl, hx, XB.xc_TooMany, rfl, XB.is_TooMany_NoWay, _, rfl, x, c_TooMany, _, _, _, rfl, hx, XB.xc_TooMany, rfl, XB.is_TooMany_NoRoom, _, rfl, x, c_TooMany, _, _, _, rfl, hx, XB.xc_TooMany, rfl, XB.is_TooMany_NotPlain, szl (by simp), fun p1 hp1 => ?_⟩
  have g1 := same_new hp1 (.lst [V.bl false, V.bl false, V.bl false])
  have e1 := upd_same (H := H) (a := p1) (o := .lst [V.bl false, V.bl false, V.bl false])
  have hx1 := g1 _ _ hx
  generalize upd H p1 (.lst [V.bl false, V.bl false, V.bl false]) = H1 at g1 e1 hx1 ⊢
  refine ⟨_, rfl, _, rfl, x, c_TooMany, _, _, _, rfl, hx1, XB.xc_TooMany, rfl, XB.is_TooMany_OtherSigns, _, rfl, x, c_TooMany, _, _, _, rfl, hx1, XB.xc_TooMany, rfl, XB.is_TooMany_TooMany, _, rfl, x, c_TooMany, _, _, _, rfl, hx1, XB.xc_TooMany, rfl, XB.is_TooMany_TwoWays, szl (by simp), fun p2 hp2 => ?_⟩
  have k2 := same_new hp2 (.lst [V.bl false, V.bl true, V.bl false])
  refine ⟨p1, p2, _, _, rfl, rfl, k2 _ _ e1, upd_same, szl (by simp), fun p3 hp3 => ?_⟩
  have k3 := same_new hp3 (.lst ([V.bl false, V.bl false, V.bl false] ++ [V.bl false, V.bl true, V.bl false]))
  have g3 := (g1.trans k2).trans k3
  have e3 := upd_same (H := upd H1 p2 (.lst [V.bl false, V.bl true, V.bl false])) (a := p3) (o := .lst ([V.bl false, V.bl false, V.bl false] ++ [V.bl false, V.bl true, V.bl false]))
  have hx3 := g3 _ _ hx
  generalize upd (upd H1 p2 (.lst [V.bl false, V.bl true, V.bl false])) p3 (.lst ([V.bl false, V.bl false, V.bl false] ++ [V.bl false, V.bl true, V.bl false])) = H3 at g3 e3 hx3 ⊢
  refine ⟨_, rfl, _, rfl, x, c_TooMany, _, _, _, rfl, hx3, XB.xc_TooMany, rfl, XB.is_TooMany_NeverPlain, _, rfl, x, c_TooMany, _, _, _, rfl, hx3, XB.xc_TooMany, rfl, XB.is_TooMany_NoText, szl (by simp), fun p4 hp4 => ?_⟩
  have k4 := same_new hp4 (.lst [V.bl false, V.bl false])
  refine ⟨p3, p4, _, _, rfl, rfl, k4 _ _ e3, upd_same, szl (by simp), fun p5 hp5 => ?_⟩
  have k5 := same_new hp5 (.lst ([V.bl false, V.bl false, V.bl false] ++ [V.bl false, V.bl true, V.bl false] ++ [V.bl false, V.bl false]))
  have g5 := (g3.trans k4).trans k5
  have e5 : upd (upd H3 p4 (.lst [V.bl false, V.bl false])) p5 (.lst ([V.bl false, V.bl false, V.bl false] ++ [V.bl false, V.bl true, V.bl false] ++ [V.bl false, V.bl false])) p5 = some (.lst (bsA.map V.bl)) := upd_same
  generalize upd (upd H3 p4 (.lst [V.bl false, V.bl false])) p5 (.lst ([V.bl false, V.bl false, V.bl false] ++ [V.bl false, V.bl true, V.bl false] ++ [V.bl false, V.bl false])) = H5 at g5 e5 ⊢
  refine ⟨_, rfl, p5, rfl, ⟨_, SqL.of e5⟩, ?_⟩
  refine comp_list (xs := bsA.map V.bl) (fun i ys τ H' => H5 = H' ∧ (∃ y, τ = [y]) ∧ i ≤ 8 ∧ ys = ((bsA.take i).filter id).map V.bl) ⟨rfl, ⟨_, rfl⟩, Nat.zero_le _, rfl⟩ (fun i ys τ H' z => z.1 ▸ SqL.of e5) ?_ ?_
  · rintro i y ys τ _ hy ⟨rfl, ⟨y0, rfl⟩, hi, rfl⟩
    rw [List.getElem?_map] at hy
    obtain ⟨b, hb, rfl⟩ := Option.map_eq_some_iff.mp hy
    have hil : i < 8 := (List.getElem?_eq_some_iff.mp hb).1
    have hyl : (((bsA.take i).filter id).map V.bl).length ≤ 999 := by
      rw [List.length_map]
      have := List.length_filter_le id (bsA.take i)
      rw [List.length_take] at this
      omega
    refine ⟨_, rfl, b, rfl, ?_⟩
    cases b with
    | true =>
      refine iteT ⟨_, rfl, szl' (by omega), rfl, ⟨_, rfl⟩, hil, ?_⟩
      rw [take_get hb, List.filter_append, List.map_append]; rfl
    | false =>
      refine iteF ⟨rfl, ⟨_, rfl⟩, hil, ?_⟩
      rw [take_get hb, List.filter_append, List.map_append]
      show _ = _ ++ []
      rw [List.append_nil]
  rintro ys τ _ ⟨rfl, _, _, rfl⟩ p6 hp6
  refine ⟨p6, _, rfl, .inl (SqL.of upd_same), rfl, ?_⟩
  exact q _ (g5.trans (same_new hp6 _))

theorem sc_law : FnScope ["_law_script", "_law_number", "_law_rooms", "_law_lists", "_law_k", "_law_cell", "_law_room", "_law_word", "_law_way", "_law_told", "_law_scribe", "_law_handed", "_law_error", "e"] ["_law_script"] (defScope s_law) := ⟨rfl, rfl, rfl, by decide +kernel, rfl, by decide +kernel, by decide +kernel⟩
theorem ok_law (B : Bi mg) {c_ScribeError c_NoWay c_NoRoom c_NotPlain c_OtherSigns c_TooMany c_TwoWays c_NeverPlain c_NoText : Addr} (XB : Xb K mg c_ScribeError c_NoWay c_NoRoom c_NotPlain c_OtherSigns c_TooMany c_TwoWays c_NeverPlain c_NoText) (C_law_mixed : Cal P w K mg base "_law_mixed" ["_law_cell", "_law_k"] 1 (spMixed)) (C_law_copy : Cal P w K mg base "_law_copy" ["_law_scribe"] 1 (spCopied K)) (C_law_cell_at : Cal P w K mg base "_law_cell_at" ["_law_script", "_law_k"] 1 (spCell K)) (C_two_ways : Cal1 P w K mg base "two_ways" ["scribe"] 2 (spMany K c_TooMany)) (C_law_alone : Cal P w K mg base "_law_alone" ["_law_error"] 1 (spAlone K c_TooMany)) (C_made_plain : Cal1 P w K mg base "made_plain" ["scribe"] 3 (spMany K c_TooMany)) (C_two_passes : Cal1 P w K mg base "two_passes" ["scribe"] 2 (spMany K c_TooMany)) {f : Addr} {fd : FuncData} (F : Fun K "law" "law" s_law f fd) : FnOk P w K mg base CX0 4 f fd ["_law_script"] (spLaw K) := by
  refine F.ok sc_law (fun vs H Q E h => ?_) (fun cdv A outer s H vs Q E hr h => ?_)
  · obtain ⟨a, ns, rfl, _⟩ := h; rfl
  obtain ⟨a, ns, rfl, hS, h63, q⟩ := h
  refine ⟨_, (pss_cons (ps_set (i := 1) sc_law.nd rfl (Or.inl rfl) (pe_fn C_law_mixed hr (by decide : 1 ≤ 3) (by rfl) (pa_cons (pe_fn C_law_cell_at hr (by decide : 1 ≤ 3) (by rfl) (pa_cons (pv 0) (pa_cons pe_int pa_nil))) (pa_cons pe_int pa_nil))))
      (pss_cons (ps_set (i := 2) sc_law.nd rfl (Or.inl rfl) (pe_ix (kIx (K := K) rPick ix_pick) (pe_lst (pa_cons pe_int (pa_cons (pe_op op_add pe_int (pe_op op_mod (pe_op op_fdiv (pv 1) pe_int) pe_int)) pa_nil))) (pe_op op_mod (pv 1) pe_int) (by intro _ _; rfl)))
      (pss_cons (ps_set (i := 3) sc_law.nd rfl (Or.inl rfl) (pe_lst (pa_cons (pe_lst pa_nil) (pa_cons (pe_lst pa_nil) (pa_cons (pe_lst pa_nil) pa_nil)))))
      (pss_cons (ps_for PassesOwn.never (by rfl) (pi_range2 (by rfl) B.range (pa_cons pe_int (pa_cons (pe_callB (call_min2 (by rfl)) (by rfl) B.min bt_min (pa_cons pe_int (pa_cons (pe_callB (kLen (K := K)) (by rfl) B.len bt_len (pa_cons (pv 0) pa_nil)) pa_nil))) pa_nil))) (pg_name (i := 4) sc_law.nd rfl (Or.inl rfl)) (pss_cons (ps_set (i := 5) sc_law.nd rfl (Or.inl rfl) (pe_fn C_law_mixed hr (by decide : 1 ≤ 3) (by rfl) (pa_cons (pe_ix (kIx (K := K) rIxL ix_list) (pv 0) (pv 4) (by intro _ _; rfl)) (pa_cons (pe_op op_add (pv 4) pe_int) pa_nil))))
      (pss_cons (ps_set (i := 6) sc_law.nd rfl (Or.inl rfl) (pe_abs (pe_op op_mod (pe_op op_fdiv (pv 5) pe_int) (pe_callB (call_max2 (by rfl)) (by rfl) B.max bt_max (pa_cons (pv 2) (pa_cons pe_int pa_nil))))))
      (pss_cons (ps_set (i := 7) sc_law.nd rfl (Or.inl rfl) (pe_slice sl_str pe_str po_none (po_some (pe_op op_mod (pe_op op_fdiv (pv 5) pe_int) pe_int))))
      (pss_cons (ps_set (i := 8) sc_law.nd rfl (Or.inl rfl) (pe_ix (kIx (K := K) rPick ix_pick) (pe_lst (pa_cons pe_int (pa_cons pe_int (pa_cons pe_int (pa_cons pe_int (pa_cons pe_int (pa_cons pe_int (pa_cons pe_int (pa_cons pe_int pa_nil))))))))) (pe_op op_mod (pv 5) pe_int) (by intro _ _; rfl)))
      (pss_cons (ps_set (i := 9) sc_law.nd rfl (Or.inl rfl) (pe_tup (pa_cons (pv 6) (pa_cons (pv 7) pa_nil))))
      (pss_mid (ps_if (pt_cmpR op_eq (pv 8) pe_int (nomark _)) (pss_one (ps_set (i := 9) sc_law.nd rfl (Or.inl rfl) (pe_tup (pa_cons (pv 6) (pa_cons (pe_ix ix_str pe_str (pe_op op_mod (pe_op op_fdiv (pv 5) pe_int) pe_int) (by intro _ _; rfl)) (pa_cons (pv 7) (pa_cons (pe_op op_mod (pe_op op_fdiv (pv 5) pe_int) (pe_callB (call_max2 (by rfl)) (by rfl) B.max bt_max (pa_cons (pv 2) (pa_cons pe_int pa_nil)))) pa_nil))))))) pss_nil)
      (pss_one (ps_if (PW.pt (pw_and (pt_cmpR op_gt (pv 2) pe_int (nomark _)) (pw_and1 (pt_cmpR (kOp (K := K) (rInD · true) (op_notInD hr.units)) (pv 9) (pe_ix (kIx (K := K) rIxL ix_list) (pv 3) (pv 8) (by intro _ _; rfl)) rfl)))) (pss_one (ps_expr (kPE (K := K) (fun k => tBM k _ _ _ _) (pe_bm PySem.F.plainAttrs_list PySem.F.slot_list_append PySem.F.type_list_append mt_append (pe_ix (kIx (K := K) rIxL ix_list) (pv 3) (pv 8) (by intro _ _; rfl)) (pa_cons (pv 9) pa_nil))))) pss_nil)))))))))
      (pss_cons (ps_set (i := 10) sc_law.nd rfl (Or.inl rfl) (pe_tup (pa_cons pe_str (pa_cons (pv 2) (pa_cons (pe_ix (kIx (K := K) rIxL ix_list) (pv 3) pe_int (by intro _ _; rfl)) (pa_cons (pe_ix (kIx (K := K) rIxL ix_list) (pv 3) pe_int (by intro _ _; rfl)) (pa_cons (pe_ix (kIx (K := K) rIxL ix_list) (pv 3) pe_int (by intro _ _; rfl)) pa_nil)))))))
      (pss_cons (ps_set (i := 11) sc_law.nd rfl (Or.inl rfl) (pe_fn C_law_copy hr (by decide : 1 ≤ 3) (by rfl) (pa_cons (pv 10) pa_nil)))
      (pss_cons (ps_for PassesOwn.never (by rfl) (pi_range1 (by rfl) B.range (pa_cons pe_int pa_nil)) (pg_name (i := 7) sc_law.nd rfl (Or.inl rfl)) (pss_cons (ps_set (i := 12) sc_law.nd rfl (Or.inl rfl) pe_non)
      (pss_cons (ps_tryE3 (iz := 12) (ie := 13) rfl hr (pt_cmpR op_eq (pv 7) pe_int (nomark _)) (pt_cmpR op_eq (pv 7) pe_int (nomark _)) C_two_ways (by decide : 2 ≤ 3) (by rfl) (pa_cons (pv 11) pa_nil) C_made_plain (by decide : 3 ≤ 3) (by rfl) (pa_cons (pv 11) pa_nil) C_two_passes (by decide : 2 ≤ 3) (by rfl) (pa_cons (pv 11) pa_nil) XB.cl_TooMany (by rfl) rfl rfl rfl sc_law.nd rfl rfl (Or.inl rfl) rfl (by decide))
      (pss_one (ps_if (PW.pt (pw_or (pt_not (pt_val (pe_fn C_law_alone hr (by decide : 1 ≤ 3) (by rfl) (pa_cons (pv 12) pa_nil)))) (pw_or1 (pt_cmpR (kOp (K := K) rNeD (op_neD hr.units)) (pv 11) (pv 10) (nomark _))))) (pss_one (ps_ret pe_bl)) pss_nil)))))
      (pss_one (ps_ret pe_bl))))))))), ?_⟩
  refine ⟨_, rfl, a, ns, 0, rfl, hS, by decide, _, _, rfl, fun n0 hn0 hn1 => ?_⟩
  refine ⟨_, rfl, _, _, rfl, rfl, ⟨by decide, by decide⟩, _, _, rfl, rfl, pz, _, _, rfl, rfl, szl (by simp), fun p hp => ⟨_, rfl, _, _, rfl, rfl, pz, p, _, _, rfl, rfl, SqL.of upd_same, by omega, (by show n0 % 2 < 2; omega), isNum 9 200, ?_, ?_⟩⟩
  · intro v hv
    simp only [List.mem_cons, List.not_mem_nil, or_false] at hv
    rcases hv with rfl | rfl
    · exact ⟨_, rfl, by decide, by decide⟩
    · exact ⟨_, rfl, by omega, by omega⟩
  rintro _ ⟨r, rfl, hr9, hr200⟩
  have g1 := same_new hp (.lst [V.int 9, V.int (9 + n0 / 2 % 192)])
  generalize upd H p (.lst [V.int 9, V.int (9 + n0 / 2 % 192)]) = H1 at g1 ⊢
  refine ⟨szl (by simp), fun pb hpb => ?_⟩
  refine ⟨szl (by simp), fun ps hps => ?_⟩
  refine ⟨szl (by simp), fun pe hpe => ?_⟩
  refine ⟨szl (by simp), fun pl hpl => ?_⟩
  have hps' : H1 ps = none := (same_new hpb _).free hps
  have hpe' : upd H1 pb (.lst []) pe = none := (same_new hps _).free hpe
  have hpl' : upd (upd H1 pb (.lst [])) ps (.lst []) pl = none := (same_new hpe _).free hpl
  have hpl'' : upd H1 pb (.lst []) pl = none := (same_new hps _).free hpl'
  have AP : Apart H pb ps pe := ⟨g1.free hpb, g1.free hps', g1.free ((same_new hpb _).free hpe'), ne_of_none upd_same hps, ne_of_none upd_same hpe', ne_of_none upd_same hpe⟩
  have lb : pl ≠ pb := (ne_of_none upd_same hpl'').symm
  have lS : pl ≠ ps := (ne_of_none upd_same hpl').symm
  have le : pl ≠ pe := (ne_of_none upd_same hpl).symm
  have HI0 : HI K H pb ps pe false "ba" r 0 (upd (upd (upd (upd H1 pb (.lst [])) ps (.lst [])) pe (.lst [])) pl (.lst [.ref pb, .ref ps, .ref pe])) :=
    ⟨[], [], [], [], [], [], (((g1.trans (same_new hpb _)).trans (same_new hps _)).trans (same_new hpe _)).trans (same_new hpl _), by rw [upd_ne lb.symm, upd_ne AP.be, upd_ne AP.bs]; exact upd_same, by rw [upd_ne lS.symm, upd_ne AP.se]; exact upd_same, by rw [upd_ne le.symm]; exact upd_same, .nil, .nil, .nil,
      ⟨Nat.zero_le _, Nat.zero_le _, Nat.zero_le _, by simp, by simp, by simp, by simp, by simp, by simp, fun _ => Nat.zero_le _, fun _ => by simp, fun _ => by simp⟩⟩
  have el0 := upd_same (H := upd (upd (upd H1 pb (.lst [])) ps (.lst [])) pe (.lst [])) (a := pl) (o := .lst [.ref pb, .ref ps, .ref pe])
  generalize upd (upd (upd (upd H1 pb (.lst [])) ps (.lst [])) pe (.lst [])) pl (.lst [.ref pb, .ref ps, .ref pe]) = H3 at HI0 el0 ⊢
  have hS3 : SqL K H3 a (ns.map V.int) := by obtain ⟨_, _, _, _, _, _, z, _⟩ := HI0; exact z.seq hS
  refine ⟨_, rfl, a, _, rfl, .inl hS3, _, _, rfl, _, _, rfl, ⟨by decide, by decide, ?_, ?_⟩, ?_⟩
  · rw [List.length_map]
    show -(2 ^ 62 : Int) ≤ if (ns.length : Int) < 20 then (ns.length : Int) else 20
    split <;> omega
  · rw [List.length_map]
    show (if (ns.length : Int) < 20 then (ns.length : Int) else 20) < 2 ^ 62
    split <;> omega
  rw [List.length_map]
  have hturns : ((if (ns.length : Int) < 20 then (ns.length : Int) else 20) - 1).toNat ≤ 62 ∧ ((if (ns.length : Int) < 20 then (ns.length : Int) else 20) - 1).toNat ≤ ns.length - 1 := by split <;> omega
  have hmx : 0 < (if (1 : Int) > r then 1 else r) ∧ (if (1 : Int) > r then 1 else r) = r := by rw [if_neg (by omega)]; omega
  refine for_range (fun i σ H' => HI K H pb ps pe false "ba" r i H' ∧ H' pl = some (.lst [.ref pb, .ref ps, .ref pe]) ∧ ∃ x4 x5 x6 x7 x8 x9, σ = [some (.ref a), some (.int n0), some (.int r), some (.ref pl), x4, x5, x6, x7, x8, x9, none, none, none, none]) ⟨HI0, el0, _, _, _, _, _, _, rfl⟩ ?_ ?_
  · rintro i σ H4 hi ⟨hI, el, x4, x5, x6, x7, x8, x9, rfl⟩
    have hi62 : i < 62 := Nat.lt_of_lt_of_le hi hturns.1
    have hin : 1 + i < ns.length := by have := Nat.lt_of_lt_of_le hi hturns.2; omega
    have hS4 : SqL K H4 a (ns.map V.int) := by obtain ⟨_, _, _, _, _, _, z, _⟩ := hI; exact z.seq hS
    have hat0 : atI (ns.map V.int) (1 + (i : Int)) = some (.int ns[1 + i]) := atI_nat (j := 1 + i) (by rw [List.getElem?_map, List.getElem?_eq_getElem hin]; rfl)
    refine ⟨_, rfl, _, rfl, a, _, _, _, rfl, rfl, hS4, hat0, _, rfl, _, _, rfl, rfl, _, _, rfl, fun c c0 c1 => ?_⟩
    refine ⟨fun v H' => H4 = H' ∧ ∃ n : Int, v = .int n ∧ 0 ≤ n ∧ n < r, ⟨_, rfl, _, _, rfl, rfl, ⟨by decide, by decide⟩, _, rfl, _, _, rfl, _, _, rfl, rfl, hmx.1, rfl, _, rfl, Int.emod_nonneg _ (by omega), (by have := Int.emod_lt_of_pos (c / 8) hmx.1; rw [hmx.2] at this ⊢; exact this)⟩, ?_⟩
    rintro _ _ ⟨rfl, ro, rfl, ro0, ro1⟩
    refine ⟨_, rfl, _, _, rfl, rfl, ⟨by decide, by decide⟩, _, _, rfl, rfl, pz, _, rfl, _, rfl, szl (by rw [ab_len]; decide), ?_⟩
    have hwd0 := wd_ab (c / 4000 % 3)
    generalize Txt.slice "ab" none (some (c / 4000 % 3)) = wd at hwd0 ⊢
    refine ⟨szl (by simp), fun p2 hp2 => ⟨_, rfl, _, _, rfl, rfl, pz, p2, _, _, rfl, rfl, SqL.of upd_same, by omega, (by show c % 8 < 8; omega), isNum 0 2, ?_, ?_⟩⟩
    · intro v hv
      simp only [List.mem_cons, List.not_mem_nil, or_false] at hv
      rcases hv with rfl | rfl | rfl | rfl | rfl | rfl | rfl | rfl <;> exact ⟨_, rfl, by decide, by decide⟩
    rintro _ ⟨way, rfl, hw0, hw2⟩
    have gp := same_new hp2 (.lst [V.int 0, V.int 1, V.int 1, V.int 1, V.int 2, V.int 2, V.int 1, V.int 0])
    have hI := hI.mono gp (Nat.le_refl _)
    have el := gp _ _ el
    generalize upd H4 p2 (.lst [V.int 0, V.int 1, V.int 1, V.int 1, V.int 2, V.int 2, V.int 1, V.int 0]) = H5 at hI el ⊢
    refine ⟨_, rfl, _, rfl, (by show 2 ≤ sizeLine; decide), fun t ht => ?_⟩
    have gt := same_new ht (.tup [V.int ro, V.str wd])
    have et := upd_same (H := H5) (a := t) (o := .tup [V.int ro, V.str wd])
    have hI := hI.mono gt (Nat.le_refl _)
    have el := gt _ _ el
    dsimp only at ht ⊢
    generalize upd H5 t (.tup [V.int ro, V.str wd]) = H7 at hI el et ⊢
    refine ⟨fun σ' H' => ∃ t', σ' = [some (.ref a), some (.int n0), some (.int r), some (.ref pl), some (.int (1 + (i : Int))), some (.int c), some (.int ro), some (.str wd), some (.int way), some (.ref t'), none, none, none, none] ∧ HI K H pb ps pe false "ba" r i H' ∧ H' pl = some (.lst [.ref pb, .ref ps, .ref pe]) ∧
        ((¬ way = 1 ∧ ∃ wd, Wd wd ∧ SqT K H' t' [.int ro, .str wd]) ∨ (way = 1 ∧ ∃ sg wd to, sg ∈ cl ("ba" : Str) ∧ Wd wd ∧ 0 ≤ to ∧ to < r ∧ SqT K H' t' [.int ro, .str ⟨#[sg]⟩, .str wd, .int to])), ?_, ?_⟩
    · refine ⟨_, rfl, rfl, _, rfl, iteDd (fun cc => ?_) (fun cc => ⟨t, rfl, hI, el, .inl ⟨fun z => cc (by rw [z]), wd, hwd0, SqT.of et⟩⟩)⟩
      have cc : way = 1 := by injection cc
      obtain ⟨sg, hc, hm⟩ := at_mem (xs := cl ("ab" : Str)) (i := c / 16000 % 2) (Int.emod_nonneg _ (by decide)) (by rw [cl_length, ab_len]; exact Int.emod_lt_of_pos _ (by decide))
      have to0 : 0 ≤ c / 32000 % (if (1 : Int) > r then 1 else r) := Int.emod_nonneg _ (by omega)
      have to1 : c / 32000 % (if (1 : Int) > r then 1 else r) < r := by have := Int.emod_lt_of_pos (c / 32000) hmx.1; rw [hmx.2] at this ⊢; exact this
      refine ⟨_, rfl, _, rfl, _, _, rfl, rfl, ⟨by decide, by decide⟩, _, _, rfl, rfl, pz, _, _, sg, rfl, rfl, szl (by rw [ab_len]; decide), hc, _, rfl, _, rfl, _, _, rfl, rfl, ⟨by decide, by decide⟩, _, rfl, _, _, rfl, _, _, rfl, rfl, hmx.1, (by show 4 ≤ sizeLine; decide), fun t2 ht2 => ?_⟩
      have gt2 := same_new ht2 (.tup [V.int ro, V.str ⟨#[sg]⟩, V.str wd, V.int (c / 32000 % (if (1 : Int) > r then 1 else r))])
      exact ⟨t2, rfl, hI.mono gt2 (Nat.le_refl _), gt2 _ _ el, .inr ⟨cc, sg, wd, _, ab_ba _ hm, hwd0, to0, to1, SqT.of upd_same⟩⟩
    rintro _ H8 ⟨t', rfl, hI, el, hcase⟩
    obtain ⟨B, S, E', xb, xs, xe, i1, i2, i3, i4, i5, i6, i7, i8⟩ := hI
    have stay : HI K H pb ps pe false "ba" r (i + 1) H8 := HI.mono ⟨B, S, E', xb, xs, xe, i1, i2, i3, i4, i5, i6, i7, i8⟩ (Same.refl _) (Nat.le_succ _)
    have hw : way = 0 ∨ way = 1 ∨ way = 2 := by omega
    rcases hw with rfl | rfl | rfl
    · obtain ⟨_, wd, hwd, hT⟩ : ¬ (0 : Int) = 1 ∧ ∃ wd, Wd wd ∧ SqT K H8 t' [.int ro, .str wd] := by
        rcases hcase with z | z
        · exact z
        · exact absurd z.1 (by decide)
      have hat : atI [V.ref pb, V.ref ps, V.ref pe] 0 = some (.ref pb) := rfl
      refine ⟨_, rfl, _, _, rfl, rfl, _, rfl, iteDT (show r > 0 by omega) ⟨_, rfl, _, rfl, _, rfl, _, _, _, _, rfl, rfl, SqL.of el, hat, dMk (ro, wd), pb, xb, B.map dMk, MkV.rep ⟨t', rfl, hT⟩, rfl, SqL.of i2, notIn_mk (m := (ro, wd)) i5, Nat.le_trans (deeps_map dMk 1 deep_dMk B) (by decide), _, rfl, iteB (fun z => ?_) (fun _ => ⟨stay, el, _, _, _, _, _, _, rfl⟩)⟩⟩
      have z' : (!((B.map dMk).any fun e => eqD e (dMk (ro, wd)))) = true := z
      rw [any_mem dMk eqD_dMk] at z'
      have hlx : xb.length < sizeLine := by have := i5.length; have : B.length ≤ i := i8.lb; exact szl' (by omega)
      refine ⟨_, rfl, _, rfl, _, _, _, _, rfl, rfl, SqL.of el, hat, .inl ⟨rfl, _, SqL.of i2⟩, _, rfl, pb, xb, .ref t', rfl, rfl, i2, hlx, ?_, (upd_ne lb).trans el, _, _, _, _, _, _, rfl⟩
      exact HI.addBegin AP i1 i2 i3 i4 i5 i6 i7 (i8.begin ro0 ro1 hwd (by simpa using z') (fun h => nomatch h)) ⟨t', rfl, hT⟩
    · obtain ⟨_, sg, wd, to, hsg, hwd, to0, to1, hT⟩ : (1 : Int) = 1 ∧ ∃ sg wd to, sg ∈ cl ("ba" : Str) ∧ Wd wd ∧ 0 ≤ to ∧ to < r ∧ SqT K H8 t' [.int ro, .str ⟨#[sg]⟩, .str wd, .int to] := by
        rcases hcase with z | z
        · exact absurd rfl z.1
        · exact z
      have hat : atI [V.ref pb, V.ref ps, V.ref pe] 1 = some (.ref ps) := rfl
      refine ⟨_, rfl, _, _, rfl, rfl, _, rfl, iteDT (show r > 0 by omega) ⟨_, rfl, _, rfl, _, rfl, _, _, _, _, rfl, rfl, SqL.of el, hat, dSt (ro, ⟨#[sg]⟩, wd, to), ps, xs, S.map dSt, StV.rep ⟨t', rfl, hT⟩, rfl, SqL.of i3, reps_st i6, Nat.le_trans (deeps_map dSt 1 deep_dSt S) (by decide), _, rfl, iteB (fun z => ?_) (fun _ => ⟨stay, el, _, _, _, _, _, _, rfl⟩)⟩⟩
      have z' : (!((S.map dSt).any fun e => eqD e (dSt (ro, ⟨#[sg]⟩, wd, to)))) = true := z
      rw [any_mem dSt eqD_dSt] at z'
      have hlx : xs.length < sizeLine := by have := i6.length; have : S.length ≤ i := i8.ls; exact szl' (by omega)
      refine ⟨_, rfl, _, rfl, _, _, _, _, rfl, rfl, SqL.of el, hat, .inl ⟨rfl, _, SqL.of i3⟩, _, rfl, ps, xs, .ref t', rfl, rfl, i3, hlx, ?_, (upd_ne lS).trans el, _, _, _, _, _, _, rfl⟩
      exact HI.addStep AP i1 i2 i3 i4 i5 i6 i7 (i8.step ro0 ro1 ⟨sg, hsg, rfl⟩ hwd to0 to1 (by simpa using z') (fun h => nomatch h)) ⟨t', rfl, hT⟩
    · obtain ⟨_, wd, hwd, hT⟩ : ¬ (2 : Int) = 1 ∧ ∃ wd, Wd wd ∧ SqT K H8 t' [.int ro, .str wd] := by
        rcases hcase with z | z
        · exact z
        · exact absurd z.1 (by decide)
      have hat : atI [V.ref pb, V.ref ps, V.ref pe] 2 = some (.ref pe) := rfl
      refine ⟨_, rfl, _, _, rfl, rfl, _, rfl, iteDT (show r > 0 by omega) ⟨_, rfl, _, rfl, _, rfl, _, _, _, _, rfl, rfl, SqL.of el, hat, dMk (ro, wd), pe, xe, E'.map dMk, MkV.rep ⟨t', rfl, hT⟩, rfl, SqL.of i4, notIn_mk (m := (ro, wd)) i7, Nat.le_trans (deeps_map dMk 1 deep_dMk E') (by decide), _, rfl, iteB (fun z => ?_) (fun _ => ⟨stay, el, _, _, _, _, _, _, rfl⟩)⟩⟩
      have z' : (!((E'.map dMk).any fun e => eqD e (dMk (ro, wd)))) = true := z
      rw [any_mem dMk eqD_dMk] at z'
      have hlx : xe.length < sizeLine := by have := i7.length; have : E'.length ≤ i := i8.le; exact szl' (by omega)
      refine ⟨_, rfl, _, rfl, _, _, _, _, rfl, rfl, SqL.of el, hat, .inl ⟨rfl, _, SqL.of i4⟩, _, rfl, pe, xe, .ref t', rfl, rfl, i4, hlx, ?_, (upd_ne le).trans el, _, _, _, _, _, _, rfl⟩
      exact HI.addEnd AP i1 i2 i3 i4 i5 i6 i7 (i8.end_ ro0 ro1 hwd (by simpa using z') (fun h => nomatch h)) ⟨t', rfl, hT⟩
  
  rintro σ H4 ⟨hI, el, x4, x5, x6, x7, x8, x9, rfl⟩
  have hI : HI K H pb ps pe false "ba" r 62 H4 := hI.mono (Same.refl _) hturns.1
  obtain ⟨B, S, E', xb, xs, xe, i1, i2, i3, i4, i5, i6, i7, i8⟩ := hI
  refine ⟨_, rfl, _, rfl, _, _, _, _, rfl, rfl, SqL.of el, rfl, _, rfl, _, _, _, _, rfl, rfl, SqL.of el, rfl, _, rfl, _, _, _, _, rfl, rfl, SqL.of el, rfl, (by show 5 ≤ sizeLine; decide), fun v hv => ?_⟩
  have gv := same_new hv (.tup [V.str "ba", V.int r, V.ref pb, V.ref ps, V.ref pe])
  obtain ⟨s, es⟩ : ∃ s : Scr, s = ⟨"ba", r, B, S, E'⟩ := ⟨_, rfl⟩
  have hr8 : 8 < s.rooms := by rw [es]; show 8 < r; omega
  have hVs : ScV K (upd H4 v (.tup [V.str "ba", V.int r, V.ref pb, V.ref ps, V.ref pe])) s (.ref v) pb ps pe := by
    rw [es]
    exact ⟨v, xb, xs, xe, rfl, SqT.of upd_same, SqL.of (gv _ _ i2), SqL.of (gv _ _ i3), SqL.of (gv _ _ i4), paired_mono (fun _ _ => MkV.mono (Same.grow gv)) i5, paired_mono (fun _ _ => StV.mono (Same.grow gv)) i6, paired_mono (fun _ _ => MkV.mono (Same.grow gv)) i7⟩
  dsimp only at hv ⊢
  generalize upd H4 v (.tup [V.str "ba", V.int r, V.ref pb, V.ref ps, V.ref pe]) = H5 at hVs ⊢
  clear es i1 i2 i3 i4 i5 i6 i7 i8 el
  refine ⟨_, rfl, .ref v, s, pb, ps, pe, rfl, hVs, fun v2 H6 pb2 ps2 pe2 g6 hN2 _ => ?_⟩
  have hVh := hN2.v
  have hVs := hVs.mono g6
  have d1 : deep (dScr s) ≤ 60 := Nat.le_trans (deep_dScr _) (by decide)
  refine ⟨_, rfl, by decide, by decide, ?_⟩
  refine for_range (fun i σ H' => Same H6 H' ∧ ∃ y7 y12 y13, σ = [some (.ref a), some (.int n0), some (.int r), some (.ref pl), x4, x5, x6, y7, x8, x9, some (.ref v), some v2, y12, y13]) ⟨Same.refl _, _, _, _, rfl⟩ ?_ ?_
  · rintro i σ H7 hi ⟨g7, y7, y12, y13, rfl⟩
    refine ⟨_, rfl, rfl, _, rfl, iteDd (fun c => ?_) (fun c => ?_)⟩
    · refine ⟨_, rfl, v2, s, pb2, ps2, pe2, rfl, hVh.mono g7, hr8, ⟨c_TooMany, rfl, XB.sub_TooMany_TooMany, fun xc hxc => ?_⟩⟩
      refine ⟨_, rfl, xc, rfl, upd_same, fun H9 g9 => ⟨_, rfl, iteF ?_⟩⟩
      have gx := (g7.trans (same_new hxc _)).trans g9
      refine ⟨_, rfl, _, rfl, dScr s, dScr s, (hVh.mono gx).rep, (hVs.mono gx).rep, d1, _, rfl, ?_⟩
      rw [eqD_refl]
      exact iteF ⟨gx, _, _, _, rfl⟩
    refine ⟨_, rfl, rfl, _, rfl, iteDd (fun c => ?_) (fun c => ?_)⟩
    · refine ⟨_, rfl, v2, s, pb2, ps2, pe2, rfl, hVh.mono g7, hr8, ⟨c_TooMany, rfl, XB.sub_TooMany_TooMany, fun xc hxc => ?_⟩⟩
      refine ⟨_, rfl, xc, rfl, upd_same, fun H9 g9 => ⟨_, rfl, iteF ?_⟩⟩
      have gx := (g7.trans (same_new hxc _)).trans g9
      refine ⟨_, rfl, _, rfl, dScr s, dScr s, (hVh.mono gx).rep, (hVs.mono gx).rep, d1, _, rfl, ?_⟩
      rw [eqD_refl]
      exact iteF ⟨gx, _, _, _, rfl⟩
    · refine ⟨_, rfl, v2, s, pb2, ps2, pe2, rfl, hVh.mono g7, hr8, ⟨c_TooMany, rfl, XB.sub_TooMany_TooMany, fun xc hxc => ?_⟩⟩
      refine ⟨_, rfl, xc, rfl, upd_same, fun H9 g9 => ⟨_, rfl, iteF ?_⟩⟩
      have gx := (g7.trans (same_new hxc _)).trans g9
      refine ⟨_, rfl, _, rfl, dScr s, dScr s, (hVh.mono gx).rep, (hVs.mono gx).rep, d1, _, rfl, ?_⟩
      rw [eqD_refl]
      exact iteF ⟨gx, _, _, _, rfl⟩
  rintro σ H7 ⟨g7, y7, y12, y13, rfl⟩
  exact q _

end
theorem len_1 {α : Type} : ∀ {us : List α} (_ : us.length = 1), ∃ u0, us = [u0]
  | [u0], _ => ⟨u0, rfl⟩
theorem len_2 {α : Type} : ∀ {us : List α} (_ : us.length = 2), ∃ u0 u1, us = [u0, u1]
  | [u0, u1], _ => ⟨u0, u1, rfl⟩
theorem all_mk {l : PySem.W.OpenLaw} {w : World} {K : PySem.W.Frag} {h : Heap} {mg : Str → Option Value} {fa f0 f1 f2 f3 f4 f5 f6 f7 f8 c_ScribeError c_NoWay c_NoRoom c_NotPlain c_OtherSigns c_TooMany c_TwoWays c_NeverPlain c_NoText : Addr} (X : K.In h) (G : h.Ns mainGlobals mg) (hfa : mg "law" = some (.ref fa))
    {od0 an0 od1 an1 od2 an2 od3 an3 od4 an4 od5 an5 od6 an6 od7 an7 od8 an8 : Option Addr} {sl0 sl1 sl2 sl3 sl4 sl5 sl6 sl7 sl8 : Array (Option Value)} {oc0 kV0 dc0 pm0 cd0 ct0 oc1 kV1 dc1 pm1 cd1 ct1 oc2 kV2 dc2 pm2 cd2 ct2 oc3 kV3 dc3 pm3 cd3 ct3 oc4 kV4 dc4 pm4 cd4 ct4 oc5 kV5 dc5 pm5 cd5 ct5 oc6 kV6 dc6 pm6 cd6 ct6 oc7 kV7 dc7 pm7 cd7 ct7 oc8 kV8 dc8 pm8 cd8 ct8 : Value}
    (a0 : PySem.W.nsIn K mainGlobals "refuse_many_rooms" = some (some (.ref f0))) (l0 : K.lookup f0 = some ⟨oc0, od0, .func (PySem.W.fnOf "refuse_many_rooms" "refuse_many_rooms" (defArgs s_refuse_many_rooms) (defBody s_refuse_many_rooms) (defScope s_refuse_many_rooms) .none kV0 dc0 pm0 an0 cd0 ct0), sl0⟩) (c0 : PySem.W.codeIn K cd0 "refuse_many_rooms" = true) (k0 : PySem.W.keepIn K (.ref f0) = true)
    (a1 : PySem.W.nsIn K mainGlobals "two_ways" = some (some (.ref f1))) (l1 : K.lookup f1 = some ⟨oc1, od1, .func (PySem.W.fnOf "two_ways" "two_ways" (defArgs s_two_ways) (defBody s_two_ways) (defScope s_two_ways) .none kV1 dc1 pm1 an1 cd1 ct1), sl1⟩) (c1 : PySem.W.codeIn K cd1 "two_ways" = true) (k1 : PySem.W.keepIn K (.ref f1) = true)
    (a2 : PySem.W.nsIn K mainGlobals "made_plain" = some (some (.ref f2))) (l2 : K.lookup f2 = some ⟨oc2, od2, .func (PySem.W.fnOf "made_plain" "made_plain" (defArgs s_made_plain) (defBody s_made_plain) (defScope s_made_plain) .none kV2 dc2 pm2 an2 cd2 ct2), sl2⟩) (c2 : PySem.W.codeIn K cd2 "made_plain" = true) (k2 : PySem.W.keepIn K (.ref f2) = true)
    (a3 : PySem.W.nsIn K mainGlobals "two_passes" = some (some (.ref f3))) (l3 : K.lookup f3 = some ⟨oc3, od3, .func (PySem.W.fnOf "two_passes" "two_passes" (defArgs s_two_passes) (defBody s_two_passes) (defScope s_two_passes) .none kV3 dc3 pm3 an3 cd3 ct3), sl3⟩) (c3 : PySem.W.codeIn K cd3 "two_passes" = true) (k3 : PySem.W.keepIn K (.ref f3) = true)
    (a4 : PySem.W.nsIn K mainGlobals "_law_cell_at" = some (some (.ref f4))) (l4 : K.lookup f4 = some ⟨oc4, od4, .func (PySem.W.fnOf "_law_cell_at" "_law_cell_at" (defArgs s_law_cell_at) (defBody s_law_cell_at) (defScope s_law_cell_at) .none kV4 dc4 pm4 an4 cd4 ct4), sl4⟩) (c4 : PySem.W.codeIn K cd4 "_law_cell_at" = true) (k4 : PySem.W.keepIn K (.ref f4) = true)
    (a5 : PySem.W.nsIn K mainGlobals "_law_mixed" = some (some (.ref f5))) (l5 : K.lookup f5 = some ⟨oc5, od5, .func (PySem.W.fnOf "_law_mixed" "_law_mixed" (defArgs s_law_mixed) (defBody s_law_mixed) (defScope s_law_mixed) .none kV5 dc5 pm5 an5 cd5 ct5), sl5⟩) (c5 : PySem.W.codeIn K cd5 "_law_mixed" = true) (k5 : PySem.W.keepIn K (.ref f5) = true)
    (a6 : PySem.W.nsIn K mainGlobals "_law_copy" = some (some (.ref f6))) (l6 : K.lookup f6 = some ⟨oc6, od6, .func (PySem.W.fnOf "_law_copy" "_law_copy" (defArgs s_law_copy) (defBody s_law_copy) (defScope s_law_copy) .none kV6 dc6 pm6 an6 cd6 ct6), sl6⟩) (c6 : PySem.W.codeIn K cd6 "_law_copy" = true) (k6 : PySem.W.keepIn K (.ref f6) = true)
    (a7 : PySem.W.nsIn K mainGlobals "_law_alone" = some (some (.ref f7))) (l7 : K.lookup f7 = some ⟨oc7, od7, .func (PySem.W.fnOf "_law_alone" "_law_alone" (defArgs s_law_alone) (defBody s_law_alone) (defScope s_law_alone) .none kV7 dc7 pm7 an7 cd7 ct7), sl7⟩) (c7 : PySem.W.codeIn K cd7 "_law_alone" = true) (k7 : PySem.W.keepIn K (.ref f7) = true)
    (a8 : PySem.W.nsIn K mainGlobals "law" = some (some (.ref f8))) (l8 : K.lookup f8 = some ⟨oc8, od8, .func (PySem.W.fnOf "law" "law" (defArgs s_law) (defBody s_law) (defScope s_law) .none kV8 dc8 pm8 an8 cd8 ct8), sl8⟩) (c8 : PySem.W.codeIn K cd8 "law" = true) (k8 : PySem.W.keepIn K (.ref f8) = true)
    (z0 : PySem.W.nsIn K mainGlobals "ValueError" = some none)
    (z1 : PySem.W.nsIn K mainGlobals "isinstance" = some none)
    (z2 : PySem.W.nsIn K mainGlobals "len" = some none)
    (z3 : PySem.W.nsIn K mainGlobals "list" = some none)
    (z4 : PySem.W.nsIn K mainGlobals "max" = some none)
    (z5 : PySem.W.nsIn K mainGlobals "min" = some none)
    (z6 : PySem.W.nsIn K mainGlobals "range" = some none)
    {gt0 : Tok} (g0 : PySem.W.nsIn K mainGlobals "MOST_ROOMS_WITH_CHOICES" = some (some (.int 8 gt0)))
    {gt1 : Tok} (g1 : PySem.W.nsIn K mainGlobals "ROOMS" = some (some (.int 1 gt1)))
    (x0 : PySem.W.nsIn K mainGlobals "ScribeError" = some (some (.ref c_ScribeError)))
    (x1 : PySem.W.nsIn K mainGlobals "NoWay" = some (some (.ref c_NoWay)))
    (x2 : PySem.W.nsIn K mainGlobals "NoRoom" = some (some (.ref c_NoRoom)))
    (x3 : PySem.W.nsIn K mainGlobals "NotPlain" = some (some (.ref c_NotPlain)))
    (x4 : PySem.W.nsIn K mainGlobals "OtherSigns" = some (some (.ref c_OtherSigns)))
    (x5 : PySem.W.nsIn K mainGlobals "TooMany" = some (some (.ref c_TooMany)))
    (x6 : PySem.W.nsIn K mainGlobals "TwoWays" = some (some (.ref c_TwoWays)))
    (x7 : PySem.W.nsIn K mainGlobals "NeverPlain" = some (some (.ref c_NeverPlain)))
    (x8 : PySem.W.nsIn K mainGlobals "NoText" = some (some (.ref c_NoText)))
    (x9 : PySem.W.excIn K c_TooMany bmV "ValueError.__new__" = true)
    (x10 : PySem.W.findIn K (.ref c_TooMany) "__getattribute__" = some (some (.builtin "BaseException.__getattribute__")))
    (x11 : PySem.W.findIn K (.ref c_TooMany) "__getattr__" = some none)
    (x12 : PySem.W.mroIn K c_TooMany (.type "BaseException") = some true)
    (x13 : (PySem.W.clsIn K c_TooMany).isSome = true)
    (x14 : PySem.W.findIn K (.ref c_TooMany) "__class__" = some (some (.builtin "object.__class__")))
    (x15 : PySem.W.specialIn K (.builtin "object.__class__") "__get__" = some (some (.builtin "getset_descriptor.__get__")))
    (x16 : PySem.W.takesIn K (.builtin "object.__class__") = some true)
    (x17 : PySem.W.mroIn K c_TooMany (.type "object") = some true)
    (x18 : PySem.W.typeIn K (.ref c_TooMany) = some (.type "type"))
    (x19 : (PySem.W.clsIn K c_TooMany).isSome = true)
    (x20 : PySem.W.mroIn K c_TooMany (.type "BaseException") = some true)
    (x21 : PySem.W.mroIn K c_TooMany (.ref c_TooMany) = some true)
    (x22 : PySem.W.kitOne K (.ref c_TooMany) (.ref c_NoText) = some false)
    (x23 : PySem.W.kitOne K (.ref c_TooMany) (.ref c_NeverPlain) = some false)
    (x24 : PySem.W.kitOne K (.ref c_TooMany) (.ref c_TwoWays) = some false)
    (x25 : PySem.W.kitOne K (.ref c_TooMany) (.ref c_TooMany) = some true)
    (x26 : PySem.W.kitOne K (.ref c_TooMany) (.ref c_OtherSigns) = some false)
    (x27 : PySem.W.kitOne K (.ref c_TooMany) (.ref c_NotPlain) = some false)
    (x28 : PySem.W.kitOne K (.ref c_TooMany) (.ref c_NoRoom) = some false)
    (x29 : PySem.W.kitOne K (.ref c_TooMany) (.ref c_NoWay) = some false)
    (x30 : PySem.W.kitOne K (.ref c_TooMany) (.ref c_ScribeError) = some true)
    (x31 : PySem.W.kitOne K (.ref c_TooMany) (.type "ValueError") = some true) :
    ∃ fd : FuncData, (∀ (s : Shared) (v : Value), BindsTo s fd ⟨[v], []⟩ [("_law_script", v)]) ∧ ∀ base : Heap, K.In base → base.Ns mainGlobals mg → FnOk l.prog w K mg base CX0 4 fa fd ["_law_script"] (spLaw K) := by
  have e := hfa.symm.trans (PySem.W.mg_of X G a8)
  cases e
  have B : Bi mg := ⟨PySem.W.mg_none_of X G z0, PySem.W.mg_none_of X G z1, PySem.W.mg_none_of X G z2, PySem.W.mg_none_of X G z3, PySem.W.mg_none_of X G z4, PySem.W.mg_none_of X G z5, PySem.W.mg_none_of X G z6, ⟨_, PySem.W.mg_of X G g0⟩, ⟨_, PySem.W.mg_of X G g1⟩⟩
  have nm_ScribeError := PySem.W.mg_of X G x0
  have nm_NoWay := PySem.W.mg_of X G x1
  have nm_NoRoom := PySem.W.mg_of X G x2
  have nm_NotPlain := PySem.W.mg_of X G x3
  have nm_OtherSigns := PySem.W.mg_of X G x4
  have nm_TooMany := PySem.W.mg_of X G x5
  have nm_TwoWays := PySem.W.mg_of X G x6
  have nm_NeverPlain := PySem.W.mg_of X G x7
  have nm_NoText := PySem.W.mg_of X G x8
  have own_TooMany : OwnX K mg "TooMany" c_TooMany := ⟨nm_TooMany, x9⟩
  have xc_TooMany : XCls K c_TooMany := ⟨x10, x11, x12, x13, x14, x15, x16, x17⟩
  have cl_TooMany : Clause K mg "TooMany" c_TooMany := ⟨nm_TooMany, x18, x19, x20⟩
  have sub_TooMany_TooMany := x21
  have is_TooMany_NoText := x22
  have is_TooMany_NeverPlain := x23
  have is_TooMany_TwoWays := x24
  have is_TooMany_TooMany := x25
  have is_TooMany_OtherSigns := x26
  have is_TooMany_NotPlain := x27
  have is_TooMany_NoRoom := x28
  have is_TooMany_NoWay := x29
  have is_TooMany_ScribeError := x30
  have iv_TooMany_ValueError := x31
  have XB : Xb K mg c_ScribeError c_NoWay c_NoRoom c_NotPlain c_OtherSigns c_TooMany c_TwoWays c_NeverPlain c_NoText := ⟨nm_ScribeError, nm_NoWay, nm_NoRoom, nm_NotPlain, nm_OtherSigns, nm_TooMany, nm_TwoWays, nm_NeverPlain, nm_NoText, own_TooMany, xc_TooMany, cl_TooMany, sub_TooMany_TooMany, is_TooMany_NoText, is_TooMany_NeverPlain, is_TooMany_TwoWays, is_TooMany_TooMany, is_TooMany_OtherSigns, is_TooMany_NotPlain, is_TooMany_NoRoom, is_TooMany_NoWay, is_TooMany_ScribeError, iv_TooMany_ValueError⟩
  have F0 := fun_mk (st := s_refuse_many_rooms) l0 c0 k0
  have F1 := fun_mk (st := s_two_ways) l1 c1 k1
  have F2 := fun_mk (st := s_made_plain) l2 c2 k2
  have F3 := fun_mk (st := s_two_passes) l3 c3 k3
  have F4 := fun_mk (st := s_law_cell_at) l4 c4 k4
  have F5 := fun_mk (st := s_law_mixed) l5 c5 k5
  have F6 := fun_mk (st := s_law_copy) l6 c6 k6
  have F7 := fun_mk (st := s_law_alone) l7 c7 k7
  have F8 := fun_mk (st := s_law) l8 c8 k8
  refine ⟨PySem.W.fnOf "law" "law" (defArgs s_law) (defBody s_law) (defScope s_law) .none kV8 dc8 pm8 an8 cd8 ct8, fun s v => .of_eq rfl, fun base _ _ => ?_⟩
  have C_refuse_many_rooms : Cal1 l.prog w K mg base "refuse_many_rooms" ["scribe"] 1 (spMany K c_TooMany) := ⟨_, _, ok_refuse_many_rooms (P := l.prog) (w := w) (base := base) B XB  F0, F0.binds (ps := ["scribe"]) (fun _ _ _ _ _ _ us hl => by obtain ⟨u0, rfl⟩ := len_1 hl; rfl), F0.kp, PySem.W.mg_of X G a0⟩
  have C_two_ways : Cal1 l.prog w K mg base "two_ways" ["scribe"] 2 (spMany K c_TooMany) := ⟨_, _, ok_two_ways (P := l.prog) (w := w) (base := base) B XB C_refuse_many_rooms F1, F1.binds (ps := ["scribe"]) (fun _ _ _ _ _ _ us hl => by obtain ⟨u0, rfl⟩ := len_1 hl; rfl), F1.kp, PySem.W.mg_of X G a1⟩
  have C_made_plain : Cal1 l.prog w K mg base "made_plain" ["scribe"] 3 (spMany K c_TooMany) := ⟨_, _, ok_made_plain (P := l.prog) (w := w) (base := base) B XB C_two_ways F2, F2.binds (ps := ["scribe"]) (fun _ _ _ _ _ _ us hl => by obtain ⟨u0, rfl⟩ := len_1 hl; rfl), F2.kp, PySem.W.mg_of X G a2⟩
  have C_two_passes : Cal1 l.prog w K mg base "two_passes" ["scribe"] 2 (spMany K c_TooMany) := ⟨_, _, ok_two_passes (P := l.prog) (w := w) (base := base) B XB C_refuse_many_rooms F3, F3.binds (ps := ["scribe"]) (fun _ _ _ _ _ _ us hl => by obtain ⟨u0, rfl⟩ := len_1 hl; rfl), F3.kp, PySem.W.mg_of X G a3⟩
  have C_law_cell_at : Cal l.prog w K mg base "_law_cell_at" ["_law_script", "_law_k"] 1 (spCell K) := ⟨_, _, ok_law_cell_at (P := l.prog) (w := w) (base := base) B XB  F4, F4.binds (ps := ["_law_script", "_law_k"]) (fun _ _ _ _ _ _ us hl => by obtain ⟨u0, u1, rfl⟩ := len_2 hl; rfl), F4.kp, PySem.W.mg_of X G a4⟩
  have C_law_mixed : Cal l.prog w K mg base "_law_mixed" ["_law_cell", "_law_k"] 1 (spMixed) := ⟨_, _, ok_law_mixed (P := l.prog) (w := w) (base := base) B XB  F5, F5.binds (ps := ["_law_cell", "_law_k"]) (fun _ _ _ _ _ _ us hl => by obtain ⟨u0, u1, rfl⟩ := len_2 hl; rfl), F5.kp, PySem.W.mg_of X G a5⟩
  have C_law_copy : Cal l.prog w K mg base "_law_copy" ["_law_scribe"] 1 (spCopied K) := ⟨_, _, ok_law_copy (P := l.prog) (w := w) (base := base) B XB  F6, F6.binds (ps := ["_law_scribe"]) (fun _ _ _ _ _ _ us hl => by obtain ⟨u0, rfl⟩ := len_1 hl; rfl), F6.kp, PySem.W.mg_of X G a6⟩
  have C_law_alone : Cal l.prog w K mg base "_law_alone" ["_law_error"] 1 (spAlone K c_TooMany) := ⟨_, _, ok_law_alone (P := l.prog) (w := w) (base := base) B XB  F7, F7.binds (ps := ["_law_error"]) (fun _ _ _ _ _ _ us hl => by obtain ⟨u0, rfl⟩ := len_1 hl; rfl), F7.kp, PySem.W.mg_of X G a7⟩
  exact ok_law (P := l.prog) (w := w) (base := base) B XB C_law_mixed C_law_copy C_law_cell_at C_two_ways C_law_alone C_made_plain C_two_passes F8
theorem walk {l : PySem.W.OpenLaw} {q : Program} {loose : List Str} {XP : (Str → Option Value) → Heap → Prop} {YP : World → Heap → Prop} {d : DefRec} {K : Params → PySem.W.Frag} (hn : l.most = some 63) (hdf : d.params.defaults = [])
    (hY : ∀ (w : World) (h : Heap), YP w h → (K w.params).In h)
    (F : ∀ (w : World) (mg : Str → Option Value) (fa : Addr) (h : Heap), (K w.params).In h → h.Ns mainGlobals mg → mg d.name = some (.ref fa) →
      ∃ fd : FuncData, (∀ (s : Shared) (u : Value), BindsTo s fd ⟨[u], []⟩ [("_law_script", u)]) ∧ ∀ base : Heap, (K w.params).In base → base.Ns mainGlobals mg → FnOk l.prog w (K w.params) mg base CX0 4 fa fd ["_law_script"] (spLaw (K w.params))) :
    PySem.W.WalkO q loose XP YP l.row.toRowW d [] (fun f vs => PySem.call f vs) :=
  L2.walk_of (n := 63) (k := 4) (x := "_law_script") (CX := fun _ => CX0) (sp := fun w => spLaw (K w.params)) hn (by decide) hdf ⟨rfl, by decide, by decide⟩ hY F (fun _ _ a ns hl _ hS => ⟨a, ns, rfl, hS, hl, fun _ => rfl⟩) fun _ _ _ _ _ z => z
end My
open PySem PySem.W PyProof.Rows
set_option maxRecDepth 100000 in
set_option maxHeartbeats 0 in
theorem PySem.Challenge.cw_earlyscribe_k84_rooms_above_eight_holds : PySem.Challenge.rw_earlyscribe_k84_rooms_above_eight.Holds := by
  w_on; o_law
  refine holds_open (q := My.q) (loose := []) (XP := XL My.q []) (YP := InK My.K) (N := 8828) My.hl (InK.of fun _ => rfl) InK.keeps
    (fun s z => xl_of s (Bool.and_eq_true_iff.mp z).1) XL.keeps (by rfl) (by rfl) (by rfl)
    (fun s z => recFacts_of (Bool.and_eq_true_iff.mp z).2) rfl (by assumption) (by decide +kernel)
    ⟨rfl, rfl, rfl, rfl, rfl, by decide +kernel⟩ ?hw ?hc
  (case hw => w_witness2)
  k_fill
  refine My.walk (l := PySem.Challenge.rw_earlyscribe_k84_rooms_above_eight) rfl rfl (fun w h Y => Y) ?F
  case F =>
    intro w mg fa h KX G hmg
    refine' My.all_mk KX G hmg ?a0 ?l0 ?c0 ?k0 ?a1 ?l1 ?c1 ?k1 ?a2 ?l2 ?c2 ?k2 ?a3 ?l3 ?c3 ?k3 ?a4 ?l4 ?c4 ?k4 ?a5 ?l5 ?c5 ?k5 ?a6 ?l6 ?c6 ?k6 ?a7 ?l7 ?c7 ?k7 ?a8 ?l8 ?c8 ?k8 ?z0 ?z1 ?z2 ?z3 ?z4 ?z5 ?z6 ?gc0 ?gc1 ?xq0 ?xq1 ?xq2 ?xq3 ?xq4 ?xq5 ?xq6 ?xq7 ?xq8 ?xq9 ?xq10 ?xq11 ?xq12 ?xq13 ?xq14 ?xq15 ?xq16 ?xq17 ?xq18 ?xq19 ?xq20 ?xq21 ?xq22 ?xq23 ?xq24 ?xq25 ?xq26 ?xq27 ?xq28 ?xq29 ?xq30 ?xq31
    (case a0 => k_is); (case l0 => k_is); (case c0 => k_is); (case k0 => k_is)
    (case a1 => k_is); (case l1 => k_is); (case c1 => k_is); (case k1 => k_is)
    (case a2 => k_is); (case l2 => k_is); (case c2 => k_is); (case k2 => k_is)
    (case a3 => k_is); (case l3 => k_is); (case c3 => k_is); (case k3 => k_is)
    (case a4 => k_is); (case l4 => k_is); (case c4 => k_is); (case k4 => k_is)
    (case a5 => k_is); (case l5 => k_is); (case c5 => k_is); (case k5 => k_is)
    (case a6 => k_is); (case l6 => k_is); (case c6 => k_is); (case k6 => k_is)
    (case a7 => k_is); (case l7 => k_is); (case c7 => k_is); (case k7 => k_is)
    (case a8 => k_is); (case l8 => k_is); (case c8 => k_is); (case k8 => k_is)
    (case z0 => k_is)
    (case z1 => k_is)
    (case z2 => k_is)
    (case z3 => k_is)
    (case z4 => k_is)
    (case z5 => k_is)
    (case z6 => k_is)
    (case gc0 => k_is)
    (case gc1 => k_is)
    (case xq0 => first | k_is | rfl | kernel_rfl)
    (case xq1 => first | k_is | rfl | kernel_rfl)
    (case xq2 => first | k_is | rfl | kernel_rfl)
    (case xq3 => first | k_is | rfl | kernel_rfl)
    (case xq4 => first | k_is | rfl | kernel_rfl)
    (case xq5 => first | k_is | rfl | kernel_rfl)
    (case xq6 => first | k_is | rfl | kernel_rfl)
    (case xq7 => first | k_is | rfl | kernel_rfl)
    (case xq8 => first | k_is | rfl | kernel_rfl)
    (case xq9 => first | k_is | rfl | kernel_rfl)
    (case xq10 => first | k_is | rfl | kernel_rfl)
    (case xq11 => first | k_is | rfl | kernel_rfl)
    (case xq12 => first | k_is | rfl | kernel_rfl)
    (case xq13 => first | k_is | rfl | kernel_rfl)
    (case xq14 => first | k_is | rfl | kernel_rfl)
    (case xq15 => first | k_is | rfl | kernel_rfl)
    (case xq16 => first | k_is | rfl | kernel_rfl)
    (case xq17 => first | k_is | rfl | kernel_rfl)
    (case xq18 => first | k_is | rfl | kernel_rfl)
    (case xq19 => first | k_is | rfl | kernel_rfl)
    (case xq20 => first | k_is | rfl | kernel_rfl)
    (case xq21 => first | k_is | rfl | kernel_rfl)
    (case xq22 => first | k_is | rfl | kernel_rfl)
    (case xq23 => first | k_is | rfl | kernel_rfl)
    (case xq24 => first | k_is | rfl | kernel_rfl)
    (case xq25 => first | k_is | rfl | kernel_rfl)
    (case xq26 => first | k_is | rfl | kernel_rfl)
    (case xq27 => first | k_is | rfl | kernel_rfl)
    (case xq28 => first | k_is | rfl | kernel_rfl)
    (case xq29 => first | k_is | rfl | kernel_rfl)
    (case xq30 => first | k_is | rfl | kernel_rfl)
    (case xq31 => first | k_is | rfl | kernel_rfl)
