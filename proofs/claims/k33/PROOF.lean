import PyProof.Rows.All
import Wide.All
import OpenK.AllK
import Wide.FinOn
import Lean
import PyProof.EqAt
import PyProof.EqKinds
import PyProof.TupleCall
import PySem.Challenge.RW_earlyscribe_k33_whole_as_early_as_can_be
set_option maxHeartbeats 4000000
set_option Elab.async false
set_option linter.all false
set_option maxRecDepth 100000
namespace L2
open PySem PySem.Spec PyProof.Rows
abbrev Key := Sum Int Str
def keyIs : Key → Value → Bool
  | .inl k, v => Value.isInt k v
  | .inr x, v => Value.isStrOf x v
def keyH (w : World) : Key → Int
  | .inl k => hashInt k
  | .inr x => hashStr w x
theorem keyIs_shape : ∀ {k : Key} {v : Value}, keyIs k v = true → (∃ i t, k = Sum.inl i ∧ v = Value.int i t) ∨ (∃ x t, k = Sum.inr x ∧ v = Value.str x t)
  | .inl i, v, h => by
    obtain ⟨t, e⟩ := Value.isInt_shape (k := i) (v := v) h
    exact .inl ⟨i, t, rfl, e⟩
  | .inr x, v, h => by
    obtain ⟨t, e⟩ := Value.isStrOf_shape (x := x) (v := v) h
    exact .inr ⟨x, t, rfl, e⟩
theorem keyIs_int (i : Int) (t : Tok) : keyIs (.inl i) (.int i t) = true := by simp [keyIs, Value.isInt]
theorem keyIs_str (x : Str) (t : Tok) : keyIs (.inr x) (.str x t) = true := by simp [keyIs, Value.isStrOf]
theorem key_ll (a b : Int) : decide ((Sum.inl a : Key) = Sum.inl b) = (a == b) := by
  by_cases e : a = b
  · subst e; simp
  · have h : ¬ (Sum.inl a : Key) = Sum.inl b := fun q => e (Sum.inl.inj q)
    rw [decide_eq_false h]
    exact (beq_eq_false_iff_ne.mpr e).symm
theorem key_rr (a b : Str) : decide ((Sum.inr a : Key) = Sum.inr b) = decide (a = b) := by
  by_cases e : a = b
  · subst e; simp
  · have h : ¬ (Sum.inr a : Key) = Sum.inr b := fun q => e (Sum.inr.inj q)
    rw [decide_eq_false h, decide_eq_false e]
theorem key_lr (a : Int) (b : Str) : decide ((Sum.inl a : Key) = Sum.inr b) = false := decide_eq_false (fun q => nomatch q)
theorem key_rl (a : Str) (b : Int) : decide ((Sum.inr a : Key) = Sum.inl b) = false := decide_eq_false (fun q => nomatch q)
def mixKind (prog : Program) (w : World) : PySem.KeyKind prog w Key where
  is := keyIs
  hash := keyH w
  inj := fun v a b ha hb => by
    rcases keyIs_shape ha with ⟨i, t, rfl, rfl⟩ | ⟨x, t, rfl, rfl⟩
    · rcases keyIs_shape hb with ⟨j, u, rfl, e⟩ | ⟨y, u, rfl, e⟩
      · injection e with e1 _; rw [e1]
      · exact nomatch e
    · rcases keyIs_shape hb with ⟨j, u, rfl, e⟩ | ⟨y, u, rfl, e⟩
      · exact nomatch e
      · injection e with e1 _; rw [e1]
  byValue := fun k v h => by
    rcases keyIs_shape h with ⟨i, t, rfl, rfl⟩ | ⟨x, t, rfl, rfl⟩ <;> rfl
  pyHash := fun hv h => by
    rcases keyIs_shape hv with ⟨i, t, rfl, rfl⟩ | ⟨x, t, rfl, rfl⟩
    · exact wpAny_pyHash_int h
    · exact wpAny_pyHash_str h
  eqBool := fun hu hv h => by
    rcases keyIs_shape hu with ⟨i, t, rfl, rfl⟩ | ⟨x, t, rfl, rfl⟩
    · rcases keyIs_shape hv with ⟨j, u, rfl, rfl⟩ | ⟨y, u, rfl, rfl⟩
      · rw [key_ll] at h; exact wpAny_eqBool_int h
      · rw [key_lr] at h; exact SeqAt.EqAt.int_str i t y u _ _ _ _ h
    · rcases keyIs_shape hv with ⟨j, u, rfl, rfl⟩ | ⟨y, u, rfl, rfl⟩
      · rw [key_rl] at h; exact SeqAt.EqAt.str_int x t j u _ _ _ _ h
      · rw [key_rr] at h; exact wpAny_eqBool_str h
  «strs» := fun k x t v h => by
    rcases keyIs_shape h with ⟨i, u, rfl, e⟩ | ⟨y, u, rfl, e⟩
    · exact nomatch e
    · injection e with e1 _
      subst e1
      cases v <;> rfl
theorem mixKind_int (prog : Program) (w : World) (i : Int) (t : Tok) : (mixKind prog w).is (.inl i) (.int i t) = true := keyIs_int i t
theorem mixKind_str (prog : Program) (w : World) (x : Str) (t : Tok) : (mixKind prog w).is (.inr x) (.str x t) = true := keyIs_str x t
end L2
namespace L2
open PySem PySem.Spec PyProof.Rows
inductive V where
  | non | bl (b : Bool) | int (i : Int) | str (x : Str) | byt (b : Array UInt8) | flt (b : UInt64) | ref (a : Addr) | ty (n : String)
  deriving DecidableEq
def RelV : V → Value → Prop
  | .non, u => u = Value.none
  | .bl b, u => u = Value.bool b
  | .int i, u => ∃ t, u = Value.int i t
  | .str x, u => ∃ t, u = Value.str x t
  | .byt b, u => ∃ t, u = Value.bytes b t
  | .flt b, u => ∃ t, u = Value.float b t
  | .ref a, u => u = Value.ref a
  | .ty n, u => u = Value.type n
abbrev Vals : List V → List Value → Prop := Paired RelV
theorem Vals.length {xs : List V} {us : List Value} (r : Vals xs us) : xs.length = us.length := Paired.length r
theorem Vals.get : ∀ {xs : List V} {us : List Value} {i : Nat} {x : V}, Vals xs us → xs[i]? = some x → ∃ u, us[i]? = some u ∧ RelV x u
  | _, _, _, _, .nil, e => by simp at e
  | _, _, 0, _, .cons r _, e => by simp at e; subst e; exact ⟨_, rfl, r⟩
  | _, _, i + 1, x, .cons _ t, e => by
    obtain ⟨u, h1, h2⟩ := Vals.get (i := i) (x := x) t (by simpa using e)
    exact ⟨u, by simpa using h1, h2⟩
theorem Vals.append : ∀ {xs ys : List V} {us ws : List Value}, Vals xs us → Vals ys ws → Vals (xs ++ ys) (us ++ ws)
  | _, _, _, _, .nil, s => s
  | _, _, _, _, .cons r t, s => .cons r (Vals.append t s)
def RelO : Option V → Option Value → Prop
  | some v, some u => RelV v u
  | none, none => True
  | _, _ => False
def KV {κ : Type} : List (κ × V) → List (κ × Value) → Prop := Paired fun (p : κ × V) (q : κ × Value) => p.1 = q.1 ∧ RelV p.2 q.2
def kV : Key → V
  | .inl i => .int i
  | .inr x => .str x
inductive HO where
  | lst (xs : List V)
  | tup (xs : List V)
  | dK (kvs : List (Key × V)) | dT (kvs : List (List Key × V))
  | set (S : Int → Bool) (n : Nat)
  | ins (C dx : Addr) (fs : List (Str × V))
  | own (x : Addr)
  | xd (fs : List (Str × V))
  | met (f x : Addr)
  | rng (lo hi : Int)
  | frz (o : Obj) (u : HO)
  | tbl (ps : Array Value)
  | ext (φ : Heap → Prop)
abbrev Hp := Addr → Option HO
def upd (H : Hp) (a : Addr) (o : HO) : Hp := fun b => if b = a then some o else H b
theorem upd_same {H : Hp} {a : Addr} {o : HO} : upd H a o a = some o := by unfold upd; rw [if_pos rfl]
theorem upd_ne {H : Hp} {a b : Addr} {o : HO} (h : b ≠ a) : upd H a o b = H b := by unfold upd; rw [if_neg h]
theorem ne_of {H : Hp} {a b : Addr} {o u : HO} (h : H a = some o) (h' : H b = some u) (d : o ≠ u) : a ≠ b := by
  intro e; subst e; rw [h] at h'; exact d (Option.some.inj h')
theorem ne_of_none {H : Hp} {a b : Addr} {o : HO} (h : H a = some o) (h' : H b = none) : a ≠ b := by
  intro e; subst e; rw [h] at h'; cases h'
section
variable (P : Program) (w : World)
def ObjOk (H : Hp) (h : Heap) (a : Addr) : HO → Prop
  | .lst xs => xs.length ≤ sizeLine ∧ ∃ (its : List Value) (n : Nat), Vals xs its ∧ h.get? a = some { cls := .type "list", data := .seq its.toArray n }
  | .tup xs => xs.length ≤ sizeLine ∧ ∃ its : List Value, Vals xs its ∧ IsTup h a its.toArray
  | .dK kvs => kvs.length ≤ sizeLine ∧ (a == sysModules) = false ∧ ∃ vs, KV kvs vs ∧ h.DictOf (mixKind P w) a vs
  | .dT kvs => kvs.length ≤ sizeLine ∧ (a == sysModules) = false ∧ ∃ xs : List (List Key × Addr × Value),
      Paired (fun (p : List Key × V) (q : List Key × Addr × Value) => p.1 = q.1 ∧ H q.2.1 = some (.tup (p.1.map kV)) ∧ RelV p.2 q.2.2) kvs xs ∧
      ∃ o es ep, h.get? a = some o ∧ o.ExactDict ∧ o.data = .dict es ep ∧ es.toList = xs.map (entryOfKey (tupleKind (mixKind P w))) ∧ (xs.map (·.1)).Nodup
  | .set S n => h.SetOf (intKind P w) a S n
  | .ins C dx fs => H dx = some (.own a) ∧ fs.length ≤ 1000 ∧ dx ≠ a ∧ h.get? a = some (PySem.W.instObj C dx) ∧
      ∃ mA, h.Ns1 dx mA ∧ (∀ f, RelO (fs.lookup f) (mA f)) ∧ PySem.Within mA (fs.map (·.1))
  | .own _ => ∃ o, h.get? a = some o
  | .xd fs => ∃ mA, h.Ns1 a mA ∧ ∀ f, RelO (fs.lookup f) (mA f)
  | .rng lo hi => ∃ t u v, h.get? a = some { cls := .type "range", data := .fields #[.int lo t, .int hi u, .int 1 v] }
  | .frz o u => h.get? a = some o ∧ ObjOk H h a u
  | .tbl ps => h.get? a = some { cls := .none, data := .fields ps }
  | .met f x => h.get? a = some (PySem.W.methodObj (.ref f) (.ref x))
  | .ext φ => φ h ∧ (∃ o, h.get? a = some o) ∧ ∀ h1 h2 : Heap, φ h1 → (∀ o, h1.get? a = some o → h2.get? a = some o) → φ h2
def HOk (H : Hp) (h : Heap) : Prop := ∀ a o, H a = some o → ObjOk P w H h a o
end
section
variable {P : Program} {w : World} {H H' : Hp} {h h' : Heap} {a : Addr} {o : HO}
theorem ObjOk.lt (x : ObjOk P w H h a o) : a < h.objs.size := by
  cases o with
  | lst xs => obtain ⟨_, _, _, _, e⟩ := x; exact Heap.lt_size e
  | tup xs => obtain ⟨_, _, _, p⟩ := x; exact p.lt
  | dK kvs => obtain ⟨_, _, _, _, o, _, _, e, _⟩ := x; exact Heap.lt_size e
  | dT kvs => obtain ⟨_, _, _, _, o, _, _, e, _⟩ := x; exact Heap.lt_size e
  | set S n => obtain ⟨o, _, _, _, e, _⟩ := x; exact Heap.lt_size e
  | ins C dx fs => obtain ⟨_, _, _, e, _⟩ := x; exact Heap.lt_size e
  | own y => obtain ⟨_, e⟩ := x; exact Heap.lt_size e
  | xd fs => obtain ⟨_, ⟨_, _, _, e, _⟩, _⟩ := x; exact Heap.lt_size e
  | rng lo hi => obtain ⟨_, _, _, e⟩ := x; exact Heap.lt_size e
  | frz ob u => obtain ⟨e, _⟩ := x; exact Heap.lt_size e
  | tbl ps => exact Heap.lt_size (show h.get? a = some _ from x)
  | met f y => exact Heap.lt_size (show h.get? a = some _ from x)
  | ext φ => obtain ⟨_, ⟨_, e⟩, _⟩ := x; exact Heap.lt_size e
theorem Paired.mapP {α β : Type} {F G : α → β → Prop} : ∀ {l₁ : List α} {l₂ : List β}, Paired F l₁ l₂ → (∀ a b, F a b → G a b) → Paired G l₁ l₂
  | _, _, .nil, _ => .nil
  | _, _, .cons r t, f => .cons (f _ _ r) (Paired.mapP t f)
theorem ObjOk.stay (x : ObjOk P w H h a o) (k : ∀ b u, (b = a ∨ H b = some (.own a)) → h.get? b = some u → h'.get? b = some u)
    (ho : ∀ b, H b = some (.own a) → H' b = some (.own a)) (ht : ∀ b xs, H b = some (.tup xs) → H' b = some (.tup xs)) : ObjOk P w H' h' a o := by
  induction o with
  | lst xs => obtain ⟨z, its, n, r, e⟩ := x; exact ⟨z, its, n, r, k _ _ (.inl rfl) e⟩
  | tup xs => obtain ⟨z, its, r, ob, e, c⟩ := x; exact ⟨z, its, r, ob, k _ _ (.inl rfl) e, c⟩
  | dK kvs => obtain ⟨z, y, vs, r, ob, es, ep, e, c⟩ := x; exact ⟨z, y, vs, r, ob, es, ep, k _ _ (.inl rfl) e, c⟩
  | dT kvs =>
    obtain ⟨z, y, xs, r, ob, es, ep, e, c⟩ := x
    exact ⟨z, y, xs, Paired.mapP r fun p q z => ⟨z.1, ht _ _ z.2.1, z.2.2⟩, ob, es, ep, k _ _ (.inl rfl) e, c⟩
  | set S n => obtain ⟨ob, es, ep, t, e, c⟩ := x; exact ⟨ob, es, ep, t, k _ _ (.inl rfl) e, c⟩
  | ins C dx fs =>
    obtain ⟨d, z, ne, e, mA, ⟨od, es, ep, e2, c⟩, r⟩ := x
    exact ⟨ho _ d, z, ne, k _ _ (.inl rfl) e, mA, ⟨od, es, ep, k _ _ (.inr d) e2, c⟩, r⟩
  | own y => obtain ⟨ob, e⟩ := x; exact ⟨ob, k _ _ (.inl rfl) e⟩
  | xd fs => obtain ⟨mA, ⟨od, es, ep, e, c⟩, r⟩ := x; exact ⟨mA, ⟨od, es, ep, k _ _ (.inl rfl) e, c⟩, r⟩
  | rng lo hi => obtain ⟨t, u, v, e⟩ := x; exact ⟨t, u, v, k _ _ (.inl rfl) e⟩
  | frz ob u ih => obtain ⟨e, q⟩ := x; exact ⟨k _ _ (.inl rfl) e, ih q⟩
  | tbl ps =>
    have e : h.get? a = some { cls := .none, data := .fields ps } := x
    show h'.get? a = some { cls := .none, data := .fields ps }
    exact k a _ (.inl rfl) e
  | met f y =>
    have e : h.get? a = some (PySem.W.methodObj (.ref f) (.ref y)) := x
    show h'.get? a = some (PySem.W.methodObj (.ref f) (.ref y))
    exact k a _ (.inl rfl) e
  | ext φ => obtain ⟨p, ⟨o, e⟩, st⟩ := x; exact ⟨st _ _ p fun o q => k _ _ (.inl rfl) q, ⟨o, k _ _ (.inl rfl) e⟩, st⟩
theorem HOk.lt (x : HOk P w H h) (e : H a = some o) : a < h.objs.size := (x a o e).lt
theorem HOk.fresh (x : HOk P w H h) (e : h.objs.size ≤ a) : H a = none := by
  cases q : H a with
  | none => rfl
  | some u => exact absurd (Nat.lt_of_lt_of_le (x.lt q) e) (Nat.lt_irrefl _)
theorem HOk.kept (x : HOk P w H h) (k : ∀ b u, h.get? b = some u → h'.get? b = some u) : HOk P w H h' := fun a o e =>
  (x a o e).stay (fun b u _ q => k b u q) (fun _ q => q) fun _ _ q => q
theorem HOk.laid (x : HOk P w H h) (k : ∀ b u, h.get? b = some u → h'.get? b = some u) (hp : h.objs.size ≤ a) (new : ObjOk P w (upd H a o) h' a o) : HOk P w (upd H a o) h' := fun b u e => by
  have hn := x.fresh hp
  by_cases hb : b = a
  · subst hb; rw [upd_same] at e; cases e; exact new
  · rw [upd_ne hb] at e
    exact (x b u e).stay (fun c v _ q => k c v q) (fun c q => by rw [upd_ne (ne_of_none q hn)]; exact q) fun c xs q => by rw [upd_ne (ne_of_none q hn)]; exact q
end
def Rd (H : Hp) (a : Addr) (u : HO) : Prop := H a = some u ∨ ∃ o, H a = some (.frz o u)
theorem Rd.ok {P : Program} {w : World} {H : Hp} {h : Heap} {a : Addr} {u : HO} (r : Rd H a u) (x : HOk P w H h) : ObjOk P w H h a u := by
  rcases r with r | ⟨o, r⟩
  · exact x a u r
  · obtain ⟨_, q⟩ := x a _ r
    exact q
def Mut : Option HO → Prop
  | some (.lst _) => True
  | some (.dK _) => True
  | some (.dT _) => True
  | some (.set _ _) => True
  | some (.ins _ _ _) => True
  | some (.ext _) => True
  | _ => False
section
variable {P : Program} {w : World} {H : Hp} {h h' : Heap} {x e : Addr} {o' : HO}
theorem HOk.write (ok : HOk P w H h) (mu : Mut (H x)) (he : e = x ∨ H e = some (.own x)) (k : ∀ b u, b ≠ e → h.get? b = some u → h'.get? b = some u) (heo : ∃ u, h'.get? e = some u)
    (new : ObjOk P w (upd H x o') h' x o') : HOk P w (upd H x o') h' := fun b u q => by
  have nown : ∀ c y, H c = some (.own y) → c ≠ x := fun c y r z => by subst z; rw [r] at mu; exact mu
  have ntup : ∀ c xs, H c = some (.tup xs) → c ≠ x := fun c xs r z => by subst z; rw [r] at mu; exact mu
  by_cases hb : b = x
  · subst hb; rw [upd_same] at q; cases q; exact new
  · rw [upd_ne hb] at q
    by_cases hbe : b = e
    · have q' : H b = some (.own x) := by
        rcases he with z | z
        · exact absurd (hbe.trans z) hb
        · rw [hbe]; exact z
      rw [q] at q'; cases q'
      obtain ⟨v, hv⟩ := heo
      exact ⟨v, by rw [hbe]; exact hv⟩
    · refine (ok b u q).stay (fun c v hc r => k c v ?_ r) (fun c r => by rw [upd_ne (nown c b r)]; exact r) fun c xs r => by rw [upd_ne (ntup c xs r)]; exact r
      rcases hc with rfl | hc
      · exact hbe
      · rintro rfl
        rcases he with z | z
        · exact nown c b hc z
        · rw [hc] at z; cases z; exact hb rfl
end
structure Un (fs ex : List Addr) (H H' : Hp) (h h' : Heap) : Prop where
  keep : ∀ b o, h.get? b = some o → H b = none → b ∉ fs → b ∉ ex → h'.get? b = some o
  slot : ∀ b o, h.get? b = some o → H b = none → b ∈ fs → b ∉ ex → ∃ sl, h'.get? b = some { o with slots := sl }
  free : ∀ b o, h.get? b = some o → H b = none → b ∉ ex → H' b = none
  there : ∀ b o, h.get? b = some o → b ∉ ex → ∃ o', h'.get? b = some o'
  tups : ∀ b xs, H b = some (.tup xs) → H' b = some (.tup xs)
  frzs : ∀ b o u, H b = some (.frz o u) → H' b = some (.frz o u)
  tbls : ∀ b ps, H b = some (.tbl ps) → ∃ more, H' b = some (.tbl (ps ++ more))
section
variable {fs fs' ex ex' : List Addr} {H H1 H2 : Hp} {h h1 h2 h' : Heap} {a x e : Addr} {o : HO}
theorem Un.any (u : Un fs ex H H1 h h1) {b : Addr} {ob : Obj} (q : h.get? b = some ob) (n : H b = none) (hx : b ∉ ex) : ∃ sl, h1.get? b = some { ob with slots := sl } := by
  by_cases hb : b ∈ fs
  · exact u.slot b ob q n hb hx
  · exact ⟨ob.slots, u.keep b ob q n hb hx⟩
theorem Un.kept (k : ∀ b u, h.get? b = some u → h'.get? b = some u) : Un fs ex H H h h' :=
  ⟨fun b ob q _ _ _ => k b ob q, fun b ob q _ _ _ => ⟨ob.slots, k b ob q⟩, fun _ _ _ n _ => n, fun b ob q _ => ⟨ob, k b ob q⟩, fun _ _ q => q, fun _ _ _ q => q, fun _ ps q => ⟨#[], by rw [q]; simp⟩⟩
theorem Un.refl : Un fs ex H H h h := Un.kept fun _ _ q => q
theorem Un.laid (k : ∀ b u, h.get? b = some u → h'.get? b = some u) (hp : h.objs.size ≤ a) (hn : H a = none) : Un fs ex H (upd H a o) h h' where
  keep := fun b u q _ _ _ => k b u q
  slot := fun b u q _ _ _ => ⟨u.slots, k b u q⟩
  free := fun b u q n _ => by rw [upd_ne (Nat.ne_of_lt (Nat.lt_of_lt_of_le (Heap.lt_size q) hp))]; exact n
  there := fun b u q _ => ⟨u, k b u q⟩
  tups := fun b xs q => by rw [upd_ne (ne_of_none q hn)]; exact q
  frzs := fun b u xs q => by rw [upd_ne (ne_of_none q hn)]; exact q
  tbls := fun b ps q => ⟨#[], by rw [upd_ne (ne_of_none q hn), q]; simp⟩
theorem Un.write (mu : Mut (H x)) (he : e = x ∨ H e = some (.own x)) (k : ∀ b u, b ≠ e → h.get? b = some u → h'.get? b = some u) (heo : ∃ u, h'.get? e = some u) : Un fs ex H (upd H x o) h h' := by
  have hx : ∀ b, H b = none → b ≠ x := fun b n z => by subst z; rw [n] at mu; exact mu
  have hb : ∀ b, H b = none → b ≠ e := fun b n z => by
    subst z
    rcases he with r | r
    · exact hx b n r
    · rw [n] at r; cases r
  have hm : ∀ b u, H b = some u → ¬ Mut (some u) → b ≠ x := fun b u q nm z => by subst z; rw [q] at mu; exact nm mu
  refine ⟨fun b u q n _ _ => k b u (hb b n) q, fun b u q n _ _ => ⟨u.slots, k b u (hb b n) q⟩, fun b u q n _ => by rw [upd_ne (hx b n)]; exact n, fun b u q _ => ?_,
    fun b xs q => by rw [upd_ne (hm b _ q fun z => z)]; exact q, fun b u xs q => by rw [upd_ne (hm b _ q fun z => z)]; exact q, fun b ps q => ⟨#[], by rw [upd_ne (hm b _ q fun z => z), q]; simp⟩⟩
  by_cases hbe : b = e
  · subst hbe; exact heo
  · exact ⟨u, k b u hbe q⟩
end
def trk (h : Heap) (H : Hp) : List Addr := (List.range h.objs.size).filter fun a => (H a).isSome
def hidT (h : Heap) (H : Hp) : Heap := PySem.W.hideAll h (trk h H)
theorem hidT_size (h : Heap) (H : Hp) : (hidT h H).objs.size = h.objs.size := PySem.W.hideAll_size _ _
theorem hidT_get {h : Heap} {H : Hp} {b : Addr} {o : Obj} (e : h.get? b = some o) (n : H b = none) : (hidT h H).get? b = some o :=
  PySem.W.hideAll_get _ e fun hm => by
    have q : (H b).isSome = true := (List.mem_filter.mp hm).2
    rw [n] at q; simp at q
theorem of_hidT {h : Heap} {H : Hp} {b : Addr} {o : Obj} (e : (hidT h H).get? b = some o) : h.get? b = some o ∧ H b = none := by
  have e' : h.get? b = some o := PySem.W.of_hideAll (trk h H) e
  refine ⟨e', ?_⟩
  cases q : H b with
  | none => rfl
  | some x =>
    have hm : b ∈ trk h H := List.mem_filter.mpr ⟨List.mem_range.mpr (Heap.lt_size e'), by simp [q]⟩
    have z : (hidT h H).get? b = none := PySem.W.hideAll_none (trk h H) hm
    rw [z] at e; cases e
def allNews (g h : Heap) (L : Addr) : List (Addr × Obj) := (List.range h.objs.size).filterMap fun a => if a = L ∨ (g.get? a).isSome = true then none else (h.get? a).map fun o => (a, o)
def rest (g h : Heap) (L d : Addr) : List (Addr × Obj) := (allNews g h L).filter fun p => decide (p.1 ≠ d)
end L2
namespace L2
open PySem PySem.Spec PyProof.Rows
structure Mod (K : PySem.W.Frag) (mg : Str → Option Value) (base : Heap) : Prop where
  kin : K.In base
  glob : base.Ns mainGlobals mg
  blt : ∃ mb, base.Ns builtinsNs mb ∧ ∀ x : Str, x ≠ "__name__" → mb x = bootBuiltins x
  nolimit : base.NoLimit
structure Cx where
  prog : Program
  w : World
  K : PySem.W.Frag
  mg : Str → Option Value
  base : Heap
  A : Around
  N : List Str
  s₀ : Shared
  H₀ : Hp
  env : Env
  outer : List Env
  stack : List Env
  ex : List Addr
  fn : Str → Bool
  calm : Bool
  pn : List (Addr × Obj)
  xe : Value → Shared → Prop
def frs (l : List Env) : List Addr := l.filterMap (·.frame)
abbrev Cx.fs (X : Cx) : List Addr := frs X.outer
def Vis (sc : Scope) (x : Str) : Prop := sc.names.lookup x = some .local ∨ sc.names.lookup x = some .cell ∨ sc.names.lookup x = some .free
def Loc (sc : Scope) (x : Str) : Prop := sc.names.lookup x = some .local ∨ sc.names.lookup x = some .cell
def Look (env : Env) (h : Heap) (m : Str → Option Value) (x : Str) (u : Value) : Prop :=
  (env.kindOf x = some .local ∧ m x = some u) ∨ ((env.kindOf x = some .cell ∨ env.kindOf x = some .free) ∧ ∃ c, env.cells.lookup x = some c ∧ h.IsCell c (some u))
structure Cx.Ok (X : Cx) : Prop where
  mod : Mod X.K X.mg X.base
  kind : X.env.scope.kind = .function
  glob : X.env.globals = mainGlobals
  blt : X.env.builtins = builtinsNs
  above : X.s₀.heap.objs.size ≤ X.env.locals
  inj : ∀ x y c, X.env.cells.lookup x = some c → X.env.cells.lookup y = some c → x = y
  has : ∀ x, (X.env.kindOf x = some .cell ∨ X.env.kindOf x = some .free) → ∃ c, X.env.cells.lookup x = some c
  cab : ∀ x c, X.fn x = true → X.env.cells.lookup x = some c → X.s₀.heap.objs.size ≤ c
  hd : X.calm = true → X.A.handled = none
  frames : X.A.frames = some X.stack
  stk : X.stack = X.outer ∨ (X.stack = X.env :: X.outer ∧ X.env.frame = some X.env.locals)
  exf : ∀ b ∈ X.ex, b ≠ X.env.locals ∧ ∀ x c, X.env.cells.lookup x = some c → c ≠ b
  bs : ∀ b o, X.base.get? b = some o → X.s₀.heap.get? b = some o ∧ X.H₀ b = none
  bsz : X.base.objs.size ≤ X.s₀.heap.objs.size
  noex : ∀ b o, X.base.get? b = some o → b ∉ X.ex
  exfs : ∀ b ∈ X.ex, b ∉ X.fs
  funs : X.s₀.heap.FunFrames X.base X.outer
  frf : ∀ b ∈ X.fs, X.H₀ b = none
structure Inv (X : Cx) (pins : List (Addr × Obj)) (σ : List (Option V)) (H : Hp) (s : Shared) : Prop where
  ok : X.Ok
  os : s.os = X.s₀.os
  bare : AllBare s.gens
  base : Un X.fs X.ex X.H₀ H X.s₀.heap s.heap
  loc : ∃ m, s.heap.Ns X.env.locals m ∧ ∀ (i : Nat) (x : Str) (v : V), X.N[i]? = some x → σ[i]? = some (some v) → Vis X.env.scope x → ∃ u, RelV v u ∧ Look X.env s.heap m x u
  cell : ∀ x c, X.env.cells.lookup x = some c → ∃ v, s.heap.IsCell c v
  free : H X.env.locals = none
  freeC : ∀ x c, X.env.cells.lookup x = some c → H c = none
  pin : ∀ p ∈ X.pn ++ pins, s.heap.get? p.1 = some p.2 ∧ H p.1 = none ∧ p.1 ≠ X.env.locals ∧ p.1 ∉ X.fs ∧ ∀ v, p.2.data ≠ .cell v
  hok : HOk X.prog X.w H s.heap
  len : σ.length = X.N.length
section
variable {X : Cx} {pins : List (Addr × Obj)} {σ : List (Option V)} {H H' : Hp} {s : Shared} {h' : Heap}
theorem Cx.Ok.nofr (ok : X.Ok) {b : Addr} {o : Obj} (e : X.base.get? b = some o) : b ∉ X.fs := fun hb => by
  have := (ok.funs.mem hb).1
  rw [e] at this; cases this
theorem Inv.bs (I : Inv X pins σ H s) : ∀ b o, X.base.get? b = some o → s.heap.get? b = some o ∧ H b = none := fun b o e =>
  ⟨I.base.keep b o (I.ok.bs b o e).1 (I.ok.bs b o e).2 (I.ok.nofr e) (I.ok.noex b o e), I.base.free b o (I.ok.bs b o e).1 (I.ok.bs b o e).2 (I.ok.noex b o e)⟩
theorem Inv.bk (I : Inv X pins σ H s) : ∀ b o, X.base.get? b = some o → s.heap.get? b = some o := fun b o e => (I.bs b o e).1
theorem Inv.mod (I : Inv X pins σ H s) : Mod X.K X.mg X.base := I.ok.mod
theorem Inv.kIn (I : Inv X pins σ H s) : X.K.In s.heap := I.ok.mod.kin.keeps I.bk
theorem Inv.lt (I : Inv X pins σ H s) : X.env.locals < s.heap.objs.size := let ⟨_, hn, _⟩ := I.loc; hn.lt
theorem Inv.sz (I : Inv X pins σ H s) : X.s₀.heap.objs.size ≤ s.heap.objs.size := Nat.le_trans I.ok.above (Nat.le_of_lt I.lt)
theorem Inv.nofs (I : Inv X pins σ H s) {a : Addr} (h : s.heap.objs.size ≤ a) : a ∉ X.fs := fun hb => by
  obtain ⟨_, o, ho, _⟩ := I.ok.funs.mem hb
  exact absurd (Nat.lt_of_lt_of_le (Heap.lt_size ho) (Nat.le_trans I.sz h)) (Nat.lt_irrefl _)
theorem Inv.cne (I : Inv X pins σ H s) : ∀ x c, X.env.cells.lookup x = some c → c ≠ X.env.locals := fun x c e z => by
  obtain ⟨v, o, ho, hd⟩ := I.cell x c e
  obtain ⟨m, ⟨o', es, ep, ho', hd', _⟩, _⟩ := I.loc
  rw [z, ho'] at ho; cases ho; rw [hd'] at hd; cases hd
theorem Inv.funs (I : Inv X pins σ H s) : s.heap.FunFrames X.base X.outer := by
  have all : ∀ (l : List Env), (∀ b ∈ frs l, b ∈ X.fs) → X.s₀.heap.FunFrames X.base l → s.heap.FunFrames X.base l := by
    intro l
    induction l with
    | nil => intro _ _; trivial
    | cons env r ih =>
      intro hs hl
      obtain ⟨hk, ⟨L, o, hf, hn, ho, hd⟩, hr⟩ := hl
      have hL : L ∈ X.fs := hs L (by unfold frs; rw [List.filterMap_cons, hf]; exact List.mem_cons_self)
      obtain ⟨sl, e⟩ := I.base.slot L o ho (I.ok.frf L hL) hL fun z => I.ok.exfs L z hL
      exact ⟨hk, ⟨L, _, hf, hn, e, hd⟩, ih (fun b hb => hs b (by unfold frs; rw [List.filterMap_cons, hf]; exact List.mem_cons_of_mem _ hb)) hr⟩
  exact all X.outer (fun _ hb => hb) I.ok.funs
theorem Inv.stack (I : Inv X pins σ H s) : s.heap.FunFrames X.base X.stack := by
  rcases I.ok.stk with e | ⟨e, hf⟩
  · rw [e]; exact I.funs
  · rw [e]
    obtain ⟨m, hn, _⟩ := I.loc
    refine .cons (by rw [I.ok.kind]; decide) hf hn ?_ I.funs
    exact Heap.get?_none_of_le (Nat.le_trans I.ok.bsz I.ok.above)
theorem Inv.stkSub (I : Inv X pins σ H s) : ∀ b ∈ frs X.stack, b ∈ X.env.locals :: X.fs := fun b hb => by
  rcases I.ok.stk with e | ⟨e, hf⟩
  · rw [e] at hb; exact List.mem_cons_of_mem _ hb
  · rw [e] at hb
    unfold frs at hb
    rw [List.filterMap_cons, hf] at hb
    exact hb
theorem Inv.stkFree (I : Inv X pins σ H s) : ∀ b ∈ frs X.stack, H b = none := fun b hb => by
  rcases List.mem_cons.mp (I.stkSub b hb) with e | hb
  · rw [e]; exact I.free
  · obtain ⟨_, o, ho, _⟩ := I.ok.funs.mem hb
    exact I.base.free b o ho (I.ok.frf b hb) fun z => I.ok.exfs b z hb
theorem Inv.step {g' : Array GenState} {t' : Nat} {d' : Drawn} {ch : List Addr} (I : Inv X pins σ H s)
    (hch : ∀ b ∈ ch, (b ∈ X.ex ∨ X.s₀.heap.objs.size ≤ b) ∧ b ≠ X.env.locals ∧ (∀ x c, X.env.cells.lookup x = some c → c ≠ b) ∧ ∀ p ∈ X.pn ++ pins, p.1 ≠ b)
    (keep : ∀ b o, b ≠ X.env.locals → b ∉ X.fs → b ∉ ch → s.heap.get? b = some o → H b = none → h'.get? b = some o)
    (slot : ∀ b o, b ≠ X.env.locals → b ∈ X.fs → b ∉ ch → s.heap.get? b = some o → H b = none → ∃ sl, h'.get? b = some { o with slots := sl }) (free : ∀ b o, b ∉ ch → s.heap.get? b = some o → H b = none → H' b = none)
    (there : ∀ b o, b ∉ ch → s.heap.get? b = some o → ∃ o', h'.get? b = some o')
    (tups : ∀ b xs, H b = some (.tup xs) → H' b = some (.tup xs)) (frzs : ∀ b o u, H b = some (.frz o u) → H' b = some (.frz o u)) (tbls : ∀ b ps, H b = some (.tbl ps) → ∃ more, H' b = some (.tbl (ps ++ more)))
    (ns : ∀ m, s.heap.Ns X.env.locals m → h'.Ns X.env.locals m) (hok : HOk X.prog X.w H' h') (hg : AllBare g') :
    Inv X pins σ H' { s with heap := h', gens := g', drawn := d', toks := t' } := by
  have neL : ∀ b o, X.s₀.heap.get? b = some o → b ≠ X.env.locals := fun b o e => Nat.ne_of_lt (Nat.lt_of_lt_of_le (Heap.lt_size e) I.ok.above)
  have neC : ∀ b o, X.s₀.heap.get? b = some o → b ∉ X.ex → b ∉ ch := fun b o e hx hb => by
    rcases (hch b hb).1 with z | z
    · exact hx z
    · exact absurd (Nat.lt_of_lt_of_le (Heap.lt_size e) z) (Nat.lt_irrefl _)
  have cellK : ∀ x c, X.env.cells.lookup x = some c → ∀ v, s.heap.IsCell c v → h'.IsCell c v := fun x c e v ⟨o, ho, hd⟩ => by
    have nch : c ∉ ch := fun z => (hch c z).2.2.1 x c e rfl
    by_cases hc : c ∈ X.fs
    · obtain ⟨sl, q⟩ := slot c o (I.cne x c e) hc nch ho (I.freeC x c e)
      exact ⟨_, q, hd⟩
    · exact ⟨o, keep c o (I.cne x c e) hc nch ho (I.freeC x c e), hd⟩
  refine ⟨I.ok, I.os, hg, ⟨fun b o e n hb hx => ?_, fun b o e n hb hx => ?_, fun b o e n hx => ?_, fun b o e hx => ?_, fun b xs e => tups b xs (I.base.tups b xs e), fun b o xs e => frzs b o xs (I.base.frzs b o xs e), fun b ps e => ?_⟩, ?_, fun x c e => ?_, ?_, fun x c e => ?_, fun p hp => ?_, hok, I.len⟩
  · exact keep b o (neL b o e) hb (neC b o e hx) (I.base.keep b o e n hb hx) (I.base.free b o e n hx)
  · obtain ⟨sl, e1⟩ := I.base.slot b o e n hb hx
    obtain ⟨sl', e2⟩ := slot b _ (neL b o e) hb (neC b o e hx) e1 (I.base.free b o e n hx)
    exact ⟨sl', e2⟩
  · obtain ⟨o', e1⟩ := I.base.there b o e hx
    exact free b o' (neC b o e hx) e1 (I.base.free b o e n hx)
  · obtain ⟨o', e1⟩ := I.base.there b o e hx
    exact there b o' (neC b o e hx) e1
  · obtain ⟨m1, e1⟩ := I.base.tbls b ps e
    obtain ⟨m2, e2⟩ := tbls b _ e1
    exact ⟨m1 ++ m2, by rw [e2, Array.append_assoc]⟩
  · obtain ⟨m, hn, hl⟩ := I.loc
    refine ⟨m, ns m hn, fun i x v e1 e2 e3 => ?_⟩
    obtain ⟨u, r, l⟩ := hl i x v e1 e2 e3
    refine ⟨u, r, ?_⟩
    rcases l with l | ⟨k, c, e, z⟩
    · exact .inl l
    · exact .inr ⟨k, c, e, cellK x c e _ z⟩
  · obtain ⟨v, z⟩ := I.cell x c e
    exact ⟨v, cellK x c e v z⟩
  · obtain ⟨m, ⟨o, _, _, ho, _⟩, _⟩ := I.loc
    exact free _ o (fun z => (hch _ z).2.1 rfl) ho I.free
  · obtain ⟨v, o, ho, hd⟩ := I.cell x c e
    exact free c o (fun z => (hch c z).2.2.1 x c e rfl) ho (I.freeC x c e)
  · obtain ⟨e, n, ne, nf, d⟩ := I.pin p hp
    have nch : p.1 ∉ ch := fun z => (hch p.1 z).2.2.2 p hp rfl
    exact ⟨keep p.1 p.2 ne nf nch e n, free p.1 p.2 nch e n, ne, nf, d⟩
theorem Inv.un {t' : Nat} (I : Inv X pins σ H s) (u : Un X.fs [] H H' s.heap h') (hok : HOk X.prog X.w H' h') : Inv X pins σ H' { s with heap := h', toks := t' } := by
  obtain ⟨m, ⟨o, es, ep, ho, r⟩, _⟩ := id I.loc
  obtain ⟨sl, hL⟩ := u.any ho I.free (by simp)
  exact I.step (g' := s.gens) (d' := s.drawn) (ch := []) (fun _ z => nomatch z) (fun b o _ hb _ e n => u.keep b o e n hb (by simp)) (fun b o _ hb _ e n => u.slot b o e n hb (by simp)) (fun b o _ e n => u.free b o e n (by simp)) (fun b o _ e => u.there b o e (by simp)) u.tups u.frzs u.tbls (fun m' hm => by
    obtain ⟨o', es', ep', ho', r'⟩ := hm
    rw [ho] at ho'; cases ho'
    exact ⟨_, es', ep', hL, r'⟩) hok I.bare
theorem Inv.call {g' : Array GenState} {t' : Nat} {d' : Drawn} {ch : List Addr} (I : Inv X pins σ H s) (u : Un (frs X.stack) ch H H' s.heap h') (hok : HOk X.prog X.w H' h') (hg : AllBare g')
    (hch : ∀ b ∈ ch, (b ∈ X.ex ∨ X.s₀.heap.objs.size ≤ b) ∧ b ≠ X.env.locals ∧ (∀ x c, X.env.cells.lookup x = some c → c ≠ b) ∧ ∀ p ∈ X.pn ++ pins, p.1 ≠ b) :
    Inv X pins σ H' { s with heap := h', gens := g', drawn := d', toks := t' } := by
  obtain ⟨m, ⟨o, es, ep, ho, r⟩, _⟩ := id I.loc
  obtain ⟨sl, hL⟩ := u.any ho I.free fun z => (hch _ z).2.1 rfl
  exact I.step (ch := ch) hch (fun b o hL hb hc e n => u.keep b o e n (fun z => (List.mem_cons.mp (I.stkSub b z)).elim hL hb) hc) (fun b o _ _ hc e n => u.any e n hc) (fun b o hc e n => u.free b o e n hc) (fun b o hc e => u.there b o e hc) u.tups u.frzs u.tbls (fun m' hm => by
    obtain ⟨o', es', ep', ho', r'⟩ := hm
    rw [ho] at ho'; cases ho'
    exact ⟨_, es', ep', hL, r'⟩) hok hg
theorem Inv.turned {t' : Nat} {it : Addr} (I : Inv X pins σ H s) (k : ∀ b o, b ≠ it → s.heap.get? b = some o → h'.get? b = some o) (hn : H it = none) (hL : it ≠ X.env.locals)
    (h1 : it ∈ X.ex ∨ X.s₀.heap.objs.size ≤ it) (h2 : ∀ x c, X.env.cells.lookup x = some c → c ≠ it) (h3 : ∀ p ∈ X.pn ++ pins, p.1 ≠ it) : Inv X pins σ H { s with heap := h', toks := t' } := by
  have nit : ∀ b u, H b = some u → b ≠ it := fun b u e z => by rw [z, hn] at e; cases e
  refine I.step (g' := s.gens) (d' := s.drawn) (ch := [it]) (fun b hb => ?_) (fun b o _ _ hc e _ => k b o (fun z => hc (by simp [z])) e) (fun b o _ _ hc e _ => ⟨o.slots, k b o (fun z => hc (by simp [z])) e⟩) (fun _ _ _ _ n => n)
    (fun b o hc e => ⟨o, k b o (fun z => hc (by simp [z])) e⟩) (fun _ _ e => e) (fun _ _ _ e => e) (fun b ps e => ⟨#[], by rw [e]; simp⟩) (fun m hm => ?_) (fun b u e => ?_) I.bare
  · have e : b = it := by simpa using hb
    subst e
    exact ⟨h1, hL, h2, h3⟩
  · obtain ⟨o, es, ep, ho, r⟩ := hm
    exact ⟨o, es, ep, k _ o (Ne.symm hL) ho, r⟩
  · refine (I.hok b u e).stay (fun c v hc q => k c v ?_ q) (fun _ q => q) fun _ _ q => q
    rcases hc with z | z
    · rw [z]; exact nit b u e
    · exact nit c _ z
theorem Inv.tok (I : Inv X pins σ H s) (t : Nat) : Inv X pins σ H { s with toks := t } := I.un (h' := s.heap) (t' := t) Un.refl I.hok
theorem Inv.kept {t' : Nat} (I : Inv X pins σ H s) (k : ∀ b u, s.heap.get? b = some u → h'.get? b = some u) : Inv X pins σ H { s with heap := h', toks := t' } := I.un (Un.kept k) (I.hok.kept k)
theorem Inv.laid {a : Addr} {o : HO} {t' : Nat} (I : Inv X pins σ H s) (k : ∀ b u, s.heap.get? b = some u → h'.get? b = some u) (hp : s.heap.objs.size ≤ a) (new : ObjOk X.prog X.w (upd H a o) h' a o) :
    Inv X pins σ (upd H a o) { s with heap := h', toks := t' } := I.un (Un.laid k hp (I.hok.fresh hp)) (I.hok.laid k hp new)
theorem Inv.write {x e : Addr} {o : HO} {t' : Nat} (I : Inv X pins σ H s) (mu : Mut (H x)) (he : e = x ∨ H e = some (.own x)) (k : ∀ b u, b ≠ e → s.heap.get? b = some u → h'.get? b = some u) (heo : ∃ u, h'.get? e = some u)
    (new : ObjOk X.prog X.w (upd H x o) h' x o) : Inv X pins σ (upd H x o) { s with heap := h', toks := t' } := I.un (Un.write mu he k heo) (I.hok.write mu he k heo new)
theorem Inv.pins_of {pins' : List (Addr × Obj)} (I : Inv X pins σ H s) (h : ∀ p ∈ pins', s.heap.get? p.1 = some p.2 ∧ H p.1 = none ∧ p.1 ≠ X.env.locals ∧ p.1 ∉ X.fs ∧ ∀ v, p.2.data ≠ .cell v) : Inv X pins' σ H s :=
  ⟨I.ok, I.os, I.bare, I.base, I.loc, I.cell, I.free, I.freeC, fun p hp => (List.mem_append.mp hp).elim (fun z => I.pin p (List.mem_append_left _ z)) (h p), I.hok, I.len⟩
theorem nodup_ix {N : List Str} (hN : N.Nodup) {i j : Nat} {x : Str} (a : N[i]? = some x) (b : N[j]? = some x) : i = j := by
  obtain ⟨h1, e1⟩ := List.getElem?_eq_some_iff.mp a
  obtain ⟨h2, e2⟩ := List.getElem?_eq_some_iff.mp b
  exact (List.getElem_inj hN).mp (e1.trans e2.symm)
theorem store_ok2 {M : Model} {A : Around} {E : Value → Shared → Prop} {i : Nat} {x : Str} {v : V} {u : Value} {Q : Unit → Shared → Prop} (I : Inv X pins σ H s) (hN : X.N.Nodup) (hi : X.N[i]? = some x) (hx : Loc X.env.scope x) (r : RelV v u)
    (h : ∀ s', Inv X pins (σ.set i (some v)) H s' → (∃ a, Heap.SameBut a s.heap s'.heap ∧ (a = X.env.locals ∨ X.env.cells.lookup x = some a)) → Q () s') (hf : X.fn x = true ∨ X.env.scope.names.lookup x = some .local := by first | exact .inl rfl | exact .inr rfl | assumption) : wpAny M A (storeName X.env x u) Q E s := by
  obtain ⟨m, hn, hl⟩ := id I.loc
  have hcls : (X.env.scope.kind == .class || (X.env.scope.kind == .module && X.env.locals != X.env.globals)) = false := by rw [I.ok.kind]; rfl
  have hiσ : i < σ.length := by rw [I.len]; exact (List.getElem?_eq_some_iff.mp hi).1
  have cne := I.cne
  have tracked : ∀ {a : Addr} {h' : Heap}, (∃ o, s.heap.get? a = some o ∧ H a = none) → Heap.SameBut a s.heap h' → HOk X.prog X.w H h' := fun {a h'} ha hs b ob e => by
    obtain ⟨_, _, hfree⟩ := ha
    refine (I.hok b ob e).stay (fun c w' hc q => (hs.2 c ?_).trans q) (fun _ q => q) fun _ _ q => q
    rintro rfl
    rcases hc with rfl | hc
    · rw [hfree] at e; cases e
    · rw [hfree] at hc; cases hc
  rcases hx with hk | hk
  · refine wpAny_storeName_local hk hn (fun h' hn' hs => ?_) hcls
    obtain ⟨oL, _, _, hoL, _⟩ := id hn
    refine h _ ⟨I.ok, I.os, I.bare, ⟨fun b o e n hb hx => ?_, fun b o e n hb hx => ?_, I.base.free, fun b o e hx => ?_, I.base.tups, I.base.frzs, I.base.tbls⟩, ⟨_, hn', fun j y v' e1 e2 e3 => ?_⟩, fun y c e => ?_, I.free, I.freeC, fun p hp => ?_, tracked ⟨oL, hoL, I.free⟩ hs, by simpa using I.len⟩ ⟨_, hs, .inl rfl⟩
    · exact (hs.2 b (Nat.ne_of_lt (Nat.lt_of_lt_of_le (Heap.lt_size e) I.ok.above))).trans (I.base.keep b o e n hb hx)
    · obtain ⟨sl, e1⟩ := I.base.slot b o e n hb hx
      exact ⟨sl, (hs.2 b (Nat.ne_of_lt (Nat.lt_of_lt_of_le (Heap.lt_size e) I.ok.above))).trans e1⟩
    · obtain ⟨o', e1⟩ := I.base.there b o e hx
      exact ⟨o', (hs.2 b (Nat.ne_of_lt (Nat.lt_of_lt_of_le (Heap.lt_size e) I.ok.above))).trans e1⟩
    · by_cases hj : j = i
      · subst hj
        rw [hi] at e1; cases e1
        rw [List.getElem?_set_self hiσ] at e2
        cases e2
        exact ⟨u, r, .inl ⟨hk, by simp⟩⟩
      · rw [List.getElem?_set_ne (Ne.symm hj)] at e2
        obtain ⟨u', r', q⟩ := hl j y v' e1 e2 e3
        refine ⟨u', r', ?_⟩
        rcases q with ⟨k, e⟩ | ⟨k, c, e, z⟩
        · refine .inl ⟨k, ?_⟩
          have : y ≠ x := fun e => hj (nodup_ix hN e1 (e ▸ hi))
          simp [this, e]
        · exact .inr ⟨k, c, e, z.sameBut hs (cne y c e)⟩
    · obtain ⟨w', z⟩ := I.cell y c e
      exact ⟨w', z.sameBut hs (cne y c e)⟩
    · obtain ⟨e, n, ne, nf, d⟩ := I.pin p hp
      exact ⟨(hs.2 p.1 ne).trans e, n, ne, nf, d⟩
  · have hfn : X.fn x = true := by
      rcases hf with z | z
      · exact z
      · rw [z] at hk; cases hk
    obtain ⟨c, hc⟩ := I.ok.has x (.inl hk)
    obtain ⟨w', z⟩ := I.cell x c hc
    refine wpAny_storeName_cell I.ok.kind hk hc z (fun h' hc' hs => ?_)
    obtain ⟨oc, hoc, hocd⟩ := id z
    refine h { s with heap := h' } ⟨I.ok, I.os, I.bare, ⟨fun b o e n hb hx => ?_, fun b o e n hb hx => ?_, I.base.free, fun b o e hx => ?_, I.base.tups, I.base.frzs, I.base.tbls⟩, ⟨m, hn.sameBut hs (Ne.symm (cne x c hc)), fun j y v' e1 e2 e3 => ?_⟩, fun y c' e => ?_, I.free, I.freeC, fun p hp => ?_, tracked ⟨oc, hoc, I.freeC x c hc⟩ hs, by simpa using I.len⟩ ⟨c, hs, .inr hc⟩
    · exact (hs.2 b (Nat.ne_of_lt (Nat.lt_of_lt_of_le (Heap.lt_size e) (I.ok.cab x c hfn hc)))).trans (I.base.keep b o e n hb hx)
    · obtain ⟨sl, e1⟩ := I.base.slot b o e n hb hx
      exact ⟨sl, (hs.2 b (Nat.ne_of_lt (Nat.lt_of_lt_of_le (Heap.lt_size e) (I.ok.cab x c hfn hc)))).trans e1⟩
    · obtain ⟨o', e1⟩ := I.base.there b o e hx
      exact ⟨o', (hs.2 b (Nat.ne_of_lt (Nat.lt_of_lt_of_le (Heap.lt_size e) (I.ok.cab x c hfn hc)))).trans e1⟩
    · by_cases hj : j = i
      · subst hj
        rw [hi] at e1; cases e1
        rw [List.getElem?_set_self hiσ] at e2
        cases e2
        exact ⟨u, r, .inr ⟨.inl hk, c, hc, hc'⟩⟩
      · rw [List.getElem?_set_ne (Ne.symm hj)] at e2
        obtain ⟨u', r', q⟩ := hl j y v' e1 e2 e3
        refine ⟨u', r', ?_⟩
        rcases q with q | ⟨k, c', e, z'⟩
        · exact .inl q
        · refine .inr ⟨k, c', e, z'.sameBut hs ?_⟩
          rintro rfl
          exact hj (nodup_ix hN e1 (I.ok.inj _ _ _ e hc ▸ hi))
    · by_cases hcc : c' = c
      · subst hcc; exact ⟨_, hc'⟩
      · obtain ⟨w2, z2⟩ := I.cell y c' e
        exact ⟨w2, z2.sameBut hs hcc⟩
    · obtain ⟨e, n, ne, nf, d⟩ := I.pin p hp
      refine ⟨(hs.2 p.1 ?_).trans e, n, ne, nf, d⟩
      intro q
      rw [q, hoc] at e
      have q' : oc = p.2 := Option.some.inj e
      exact d w' (by rw [← q']; exact hocd)
theorem store_ok {M : Model} {A : Around} {E : Value → Shared → Prop} {i : Nat} {x : Str} {v : V} {u : Value} {Q : Unit → Shared → Prop} (I : Inv X pins σ H s) (hN : X.N.Nodup) (hi : X.N[i]? = some x) (hx : Loc X.env.scope x) (r : RelV v u)
    (h : ∀ s', Inv X pins (σ.set i (some v)) H s' → Q () s') (hf : X.fn x = true ∨ X.env.scope.names.lookup x = some .local := by first | exact .inl rfl | exact .inr rfl | assumption) : wpAny M A (storeName X.env x u) Q E s :=
  store_ok2 I hN hi hx r (fun s' I' _ => h s' I') hf
theorem Inv.call' {s' : Shared} {ch : List Addr} (I : Inv X pins σ H s) (ho : s'.os = s.os) (u : Un (frs X.stack) ch H H' s.heap s'.heap) (hok : HOk X.prog X.w H' s'.heap) (hg : AllBare s'.gens)
    (hch : ∀ b ∈ ch, (b ∈ X.ex ∨ X.s₀.heap.objs.size ≤ b) ∧ b ≠ X.env.locals ∧ (∀ x c, X.env.cells.lookup x = some c → c ≠ b) ∧ ∀ p ∈ X.pn ++ pins, p.1 ≠ b) : Inv X pins σ H' s' := by
  obtain ⟨h', g', d', t', o'⟩ := s'
  have e : o' = s.os := ho
  subst e
  exact I.call (g' := g') (t' := t') (d' := d') u hok hg hch
end
abbrev XK := Value → Option Addr → Hp → Prop
abbrev St := List (Option V)
abbrev VK := V → Hp → Prop
abbrev TE := St → Hp → VK → Prop
abbrev TT := St → Hp → (Bool → Hp → Prop) → Prop
abbrev TA := St → Hp → (List V → Hp → Prop) → Prop
structure Ends where
  nx : St → Hp → Prop
  rt : VK
  bk : St → Hp → Prop := fun _ _ => False
  ct : St → Hp → Prop := fun _ _ => False
abbrev TS := Ends → St → Hp → Prop
def EP (X : Cx) (pins : List (Addr × Obj)) (σ : St) (Q : VK) (u : Value) (s' : Shared) : Prop := ∃ v H', Inv X pins σ H' s' ∧ RelV v u ∧ Q v H'
def TP (X : Cx) (pins : List (Addr × Obj)) (σ : St) (Q : Bool → Hp → Prop) (b : Bool) (s' : Shared) : Prop := ∃ H', Inv X pins σ H' s' ∧ Q b H'
def AP (X : Cx) (pins : List (Addr × Obj)) (σ : St) (Q : List V → Hp → Prop) (us : List Value) (s' : Shared) : Prop := ∃ vs H', Inv X pins σ H' s' ∧ Vals vs us ∧ Q vs H'
def SP (X : Cx) (pins : List (Addr × Obj)) (D : Ends) (f : Flow) (s' : Shared) : Prop :=
  match f with
  | .next => ∃ σ' H', Inv X pins σ' H' s' ∧ D.nx σ' H'
  | .brk => ∃ σ' H', Inv X pins σ' H' s' ∧ D.bk σ' H'
  | .cont => ∃ σ' H', Inv X pins σ' H' s' ∧ D.ct σ' H'
  | .ret u => ∃ v σ' H', Inv X pins σ' H' s' ∧ RelV v u ∧ D.rt v H'
def PE (X : Cx) (e : Expr) (t : TE) : Prop :=
  ∀ (pins : List (Addr × Obj)) (s : Shared) (σ : St) (H : Hp) (Q : VK), Inv X pins σ H s → t σ H Q → wpAny (model X.prog X.w) X.A (eval e X.env) (EP X pins σ Q) X.xe s
def PT (X : Cx) (e : Expr) (t : TT) : Prop :=
  ∀ (pins : List (Addr × Obj)) (s : Shared) (σ : St) (H : Hp) (Q : Bool → Hp → Prop), Inv X pins σ H s → t σ H Q → wpAny (model X.prog X.w) X.A (isTrue e X.env (eval e X.env)) (TP X pins σ Q) X.xe s
def PW (X : Cx) (e : Expr) (t : TT) : Prop :=
  ∀ (whole : Sem Value) (pins : List (Addr × Obj)) (s : Shared) (σ : St) (H : Hp) (Q : Bool → Hp → Prop), Inv X pins σ H s → t σ H Q → wpAny (model X.prog X.w) X.A (isTrue e X.env whole) (TP X pins σ Q) X.xe s
theorem PW.pt {X : Cx} {e : Expr} {t : TT} (h : PW X e t) : PT X e t := h _
def PA (X : Cx) (es : List Expr) (t : TA) : Prop :=
  ∀ (pos : Pos) (pins : List (Addr × Obj)) (s : Shared) (σ : St) (H : Hp) (Q : List V → Hp → Prop), Inv X pins σ H s → t σ H Q → wpAny (model X.prog X.w) X.A (spliced (backTo pos (starEach es X.env))) (AP X pins σ Q) X.xe s
def PS (X : Cx) (st : Stmt) (t : TS) : Prop :=
  ∀ (pins : List (Addr × Obj)) (s : Shared) (σ : St) (H : Hp) (D : Ends), Inv X pins σ H s → t D σ H → wpAny (model X.prog X.w) X.A (exec st X.env) (SP X pins D) X.xe s
def PSs (X : Cx) (st : List Stmt) (t : TS) : Prop :=
  ∀ (pins : List (Addr × Obj)) (s : Shared) (σ : St) (H : Hp) (D : Ends), Inv X pins σ H s → t D σ H → wpAny (model X.prog X.w) X.A (execs st X.env) (SP X pins D) X.xe s
theorem thn {α : Type} {t : Sem α} {Q Q' : α → Shared → Prop} {M : Model} {A : Around} {E : Value → Shared → Prop} {s : Shared} (h : wpAny M A t Q E s) (hQ : ∀ a s, Q a s → Q' a s) : wpAny M A t Q' E s := wpAny_mono h hQ fun _ _ x => x
end L2
namespace L2
open PySem PySem.Spec PyProof.Rows
section
variable {X : Cx}
def tVar (i : Nat) : TE := fun σ H Q => ∃ v, σ[i]? = some (some v) ∧ Q v H
def tC (v : V) : TE := fun _ H Q => Q v H
theorem pe_var {i : Nat} {x : Str} {pos : Pos} (hN : X.N[i]? = some x) (hv : Vis X.env.scope x) (hd : (x == ("__debug__" : Str)) = false := by decide) (hcd : (x == ("__classdict__" : Str)) = false := by decide) : PE X (.Name x pos) (tVar i) := by
  intro pins s σ H Q I h
  obtain ⟨v, e, h⟩ := h
  obtain ⟨m, hn, hl⟩ := I.loc
  obtain ⟨u, r, l⟩ := hl i x v hN e hv
  have fin : EP X pins σ Q u s := ⟨v, H, I, r, h⟩
  rcases l with ⟨hk, hm⟩ | ⟨hk, c, hc, hcell⟩
  · exact wpAny_Name (wpAny_loadName_local I.ok.kind hk hn hm fin) hd
  · rcases hk with hk | hk
    · exact wpAny_Name (wpAny_loadName_cell I.ok.kind hk hc hcell fin) hd
    · exact wpAny_Name (wpAny_loadName_free I.ok.kind hk hc hcell fin hcd) hd
theorem pe_int {i j pos} : PE X (.Constant (.int i) j pos) (tC (.int i)) := fun _ _ _ H _ I h => wpAny_Constant_int ⟨.int i, H, I.tok _, ⟨_, rfl⟩, h⟩
theorem pe_bl {b j pos} : PE X (.Constant (.bool b) j pos) (tC (.bl b)) := fun _ _ _ H _ I h => Constant_bool ⟨.bl b, H, I, rfl, h⟩
theorem pe_non {j pos} : PE X (.Constant .none j pos) (tC .non) := fun _ _ _ H _ I h => Constant_none ⟨.non, H, I, rfl, h⟩
theorem pe_str {x j pos} : PE X (.Constant (.str x) j pos) (tC (.str x)) := fun _ _ _ H _ I h => Calls.Constant_str ⟨.str x, H, I.tok _, ⟨_, rfl⟩, h⟩
def Gl (X : Cx) (x : Str) : Prop := X.env.kindOf x = some .globalImplicit
theorem ld_glob {E : Value → Shared → Prop} {pins : List (Addr × Obj)} {s : Shared} {σ : St} {H : Hp} {x : Str} {u : Value} {pos : Pos} {Q : Value → Shared → Prop} (I : Inv X pins σ H s) (hg : Gl X x) (hm : X.mg x = some u) (h : Q u s)
    (hd : (x == ("__debug__" : Str)) = false := by decide) : wpAny (model X.prog X.w) X.A (eval (.Name x pos) X.env) Q E s :=
  Calls.Name_function_global I.ok.kind hg (Calls.loadGlobal_global (by rw [I.ok.glob]; exact I.mod.glob.keeps I.bk) hm h) hd
theorem ld_blt {E : Value → Shared → Prop} {pins : List (Addr × Obj)} {s : Shared} {σ : St} {H : Hp} {x : Str} {u : Value} {pos : Pos} {Q : Value → Shared → Prop} (I : Inv X pins σ H s) (hg : Gl X x) (hm : X.mg x = none) (hv : bootBuiltins x = some u) (h : Q u s)
    (hn : x ≠ "__name__" := by decide) (hd : (x == ("__debug__" : Str)) = false := by decide) : wpAny (model X.prog X.w) X.A (eval (.Name x pos) X.env) Q E s := by
  obtain ⟨mb, h1, h2⟩ := I.mod.blt
  exact Calls.Name_function_global I.ok.kind hg (Calls.loadGlobal_builtin (by rw [I.ok.glob]; exact I.mod.glob.keeps I.bk) hm (by rw [I.ok.blt]; exact h1.keeps I.bk) ((h2 x hn).trans hv) h) hd
theorem pe_glob {x : Str} {v : V} {u : Value} {pos : Pos} (hg : Gl X x) (hm : X.mg x = some u) (r : RelV v u) (hd : (x == ("__debug__" : Str)) = false := by decide) : PE X (.Name x pos) (tC v) :=
  fun _ _ _ H _ I h => ld_glob I hg hm ⟨v, H, I, r, h⟩ hd
theorem pe_bltn {x : Str} {v : V} {u : Value} {pos : Pos} (hg : Gl X x) (hm : X.mg x = none) (hv : bootBuiltins x = some u) (r : RelV v u) (hn : x ≠ "__name__" := by decide) (hd : (x == ("__debug__" : Str)) = false := by decide) : PE X (.Name x pos) (tC v) :=
  fun _ _ _ H _ I h => ld_blt I hg hm hv ⟨v, H, I, r, h⟩ hn hd
variable {a b : Expr} {ta tb : TE} {pos : Pos}
def PC (X : Cx) (op : CmpOp) (a b : Expr) (t : TE) : Prop :=
  ∀ (pins : List (Addr × Obj)) (s : Shared) (σ : St) (H : Hp) (Q : VK), Inv X pins σ H s → t σ H Q →
    wpAny (model X.prog X.w) X.A (eval a X.env) (fun v s₁ => wpAny (model X.prog X.w) X.A (eval b X.env) (fun u s₂ => wpAny (model X.prog X.w) X.A (compareOp op v u) (EP X pins σ Q) X.xe s₂) X.xe s₁) X.xe s
def tB (t : TE) : TT := fun σ H Q => t σ H fun x H1 => ∃ c, x = .bl c ∧ Q c H1
theorem pt_cmp {op : CmpOp} {t : TE} (h : PC X op a b t) (h1 : behindInMarks op b = false := by first | exact nobehind _ (by decide) (by decide) | rfl) : PT X (.Compare a [op] [b] pos) (tB t) := by
  intro pins s σ H Q I hw
  refine wpAny_isTrue_Compare1 (thn (h pins s σ H _ I hw) fun v s1 h1 => thn h1 fun u s2 h2 => thn h2 fun c s3 ⟨x, H1, I1, r1, q1⟩ => ?_) h1
  obtain ⟨d, rfl, q⟩ := q1
  cases r1
  exact wpAny_truthy_bool ⟨H1, I1, q⟩
theorem pt_val {e : Expr} {t : TE} (h : PE X e t) (he : ∀ whole, isTrue e X.env whole = (do let v ← whole; standAt e.pos; holding [v] (truthy v)) := by intro _; rfl) : PT X e (tB t) := by
  intro pins s σ H Q I hw
  refine isTrue_plain (thn (h pins s σ H _ I hw) fun v s1 ⟨x, H1, I1, r1, q1⟩ => ?_) (he _)
  obtain ⟨d, rfl, q⟩ := q1
  cases r1
  exact wpAny_truthy_bool ⟨H1, I1, q⟩
variable {tA tB' : TT} {rest : List Expr}
def tAnd (t u : TT) : TT := fun σ H Q => t σ H fun c H1 => if c = true then u σ H1 Q else Q false H1
def tOr (t u : TT) : TT := fun σ H Q => t σ H fun c H1 => if c = true then Q true H1 else u σ H1 Q
def tNot (t : TT) : TT := fun σ H Q => t σ H fun c H1 => Q (!c) H1
theorem pw_and1 (ha : PT X a tA) : PW X (.BoolOp .And [a] pos) tA := by
  intro wh pins s σ H Q I h
  refine isTrue_and (thn (ha pins s σ H Q I h) fun c s1 e => ?_)
  cases c with
  | true => exact isTrue_and_nil e
  | false => exact e
theorem pw_or1 (ha : PT X a tA) : PW X (.BoolOp .Or [a] pos) tA := by
  intro wh pins s σ H Q I h
  refine isTrue_or (thn (ha pins s σ H Q I h) fun c s1 e => ?_)
  cases c with
  | false => exact isTrue_or_nil e
  | true => exact e
theorem pw_and (ha : PT X a tA) (hb : PW X (.BoolOp .And (b :: rest) pos) tB') : PW X (.BoolOp .And (a :: b :: rest) pos) (tAnd tA tB') := by
  intro wh pins s σ H Q I h
  refine isTrue_and (thn (ha pins s σ H _ I h) fun c s1 ⟨H1, I1, q1⟩ => ?_)
  cases c with
  | true => exact hb wh pins s1 σ H1 Q I1 q1
  | false => exact ⟨H1, I1, q1⟩
theorem pw_or (ha : PT X a tA) (hb : PW X (.BoolOp .Or (b :: rest) pos) tB') : PW X (.BoolOp .Or (a :: b :: rest) pos) (tOr tA tB') := by
  intro wh pins s σ H Q I h
  refine isTrue_or (thn (ha pins s σ H _ I h) fun c s1 ⟨H1, I1, q1⟩ => ?_)
  cases c with
  | true => exact ⟨H1, I1, q1⟩
  | false => exact hb wh pins s1 σ H1 Q I1 q1
theorem pt_not (ha : PT X a tA) : PT X (.UnaryOp .Not a pos) (tNot tA) := by
  intro pins s σ H Q I h
  exact isTrue_not (ha pins s σ H (fun c H1 => Q (!c) H1) I h)
def tAndV (ta tb : TE) : TE := fun σ H Q => ta σ H fun x H1 => ∃ c, x = .bl c ∧ if c = true then tb σ H1 Q else Q (.bl false) H1
def tNotV (ta : TE) : TE := fun σ H Q => ta σ H fun x H1 => ∃ c, x = .bl c ∧ Q (.bl (!c)) H1
theorem pe_one {op} {t : TE} (h : PE X a t) : PE X (.BoolOp op [a] pos) t := fun pins s σ H Q I hw => BoolOp_one (h pins s σ H Q I hw)
theorem pe_and (ha : PE X a ta) (hb : PE X (.BoolOp .And (b :: rest) pos) tb) : PE X (.BoolOp .And (a :: b :: rest) pos) (tAndV ta tb) := by
  intro pins s σ H Q I h
  refine BoolOp_and (thn (ha pins s σ H _ I h) fun v s1 ⟨x, H1, I1, r1, q1⟩ => ?_)
  obtain ⟨c, rfl, q1⟩ := q1
  cases r1
  refine wpAny_truthy_bool ?_
  cases c with
  | true => exact hb pins s1 σ H1 Q I1 q1
  | false => exact ⟨.bl false, H1, I1, rfl, q1⟩
theorem pe_not (ha : PE X a ta) : PE X (.UnaryOp .Not a pos) (tNotV ta) := by
  intro pins s σ H Q I h
  refine UnaryOp_ (thn (ha pins s σ H _ I h) fun v s1 ⟨x, H1, I1, r1, q1⟩ => ?_)
  obtain ⟨c, rfl, q1⟩ := q1
  cases r1
  exact not_of (wpAny_truthy_bool ⟨.bl (!c), H1, I1, rfl, q1⟩)
end
end L2
namespace L2
open PySem PySem.Spec PyProof.Rows
def SqL (K : PySem.W.Frag) (H : Hp) (a : Addr) (xs : List V) : Prop :=
  Rd H a (.lst xs) ∨
    ∃ (o : Obj) (its : Array Value) (n : Nat), K.lookup a = some o ∧ o.cls = .type "list" ∧ o.dict = none ∧ o.data = .seq its n ∧ its.size ≤ sizeLine ∧ Vals xs its.toList
def SqT (K : PySem.W.Frag) (H : Hp) (a : Addr) (xs : List V) : Prop :=
  Rd H a (.tup xs) ∨
    ∃ (o : Obj) (its : Array Value) (n : Nat), K.lookup a = some o ∧ o.cls = .type "tuple" ∧ o.data = .seq its n ∧ its.size ≤ sizeLine ∧ Vals xs its.toList
def absV : Value → Option V
  | .none => some .non
  | .bool b => some (.bl b)
  | .int i _ => some (.int i)
  | .str x _ => some (.str x)
  | .bytes b _ => some (.byt b)
  | .float b _ => some (.flt b)
  | .ref a => some (.ref a)
  | .type n => some (.ty n)
  | _ => none
theorem RelV.abs {x : V} {u : Value} (r : RelV x u) : absV u = some x := by
  cases x with
  | non => cases r; rfl
  | bl _ => cases r; rfl
  | int _ => obtain ⟨t, rfl⟩ := r; rfl
  | str _ => obtain ⟨t, rfl⟩ := r; rfl
  | byt _ => obtain ⟨t, rfl⟩ := r; rfl
  | flt _ => obtain ⟨t, rfl⟩ := r; rfl
  | ref _ => cases r; rfl
  | ty _ => cases r; rfl
theorem RelV.inj {x y : V} {u : Value} (r : RelV x u) (q : RelV y u) : x = y := Option.some.inj (r.abs.symm.trans q.abs)
theorem Vals.inj : ∀ {xs ys : List V} {us : List Value}, Vals xs us → Vals ys us → xs = ys
  | _, _, _, .nil, .nil => rfl
  | _, _, _, .cons r t, .cons r' t' => by rw [r.inj r', Vals.inj t t']
section
variable {X : Cx} {pins : List (Addr × Obj)} {σ : St} {H : Hp} {s : Shared} {a : Addr} {xs ys : List V}
theorem SqL.of {K : PySem.W.Frag} (h : H a = some (.lst xs)) : SqL K H a xs := .inl (.inl h)
theorem SqT.of {K : PySem.W.Frag} (h : H a = some (.tup xs)) : SqT K H a xs := .inl (.inl h)
theorem Inv.list (I : Inv X pins σ H s) (h : SqL X.K H a xs) : ∃ its : List Value, Vals xs its ∧ PlainL s.heap a its.toArray ∧ xs.length ≤ sizeLine := by
  rcases h with h | ⟨o, its, n, hk, hc, hd, hs, hz, r⟩
  · obtain ⟨z, its, n, r, e⟩ := h.ok I.hok
    exact ⟨its, r, ⟨_, n, e, rfl, rfl, rfl⟩, z⟩
  · refine ⟨its.toList, r, ⟨o, n, I.kIn a o hk, hc, hd, by simpa using hs⟩, ?_⟩
    have e := r.length
    simp only [Array.length_toList] at e
    omega
theorem Inv.tuple (I : Inv X pins σ H s) (h : SqT X.K H a xs) : ∃ its : List Value, Vals xs its ∧ IsTup s.heap a its.toArray ∧ xs.length ≤ sizeLine := by
  rcases h with h | ⟨o, its, n, hk, hc, hs, hz, r⟩
  · obtain ⟨z, its, r, p⟩ := h.ok I.hok
    exact ⟨its, r, p, z⟩
  · refine ⟨its.toList, r, ⟨o, I.kIn a o hk, hc, n, by simpa using hs⟩, ?_⟩
    have e := r.length
    simp only [Array.length_toList] at e
    omega
theorem Inv.list_inj (I : Inv X pins σ H s) (h : SqL X.K H a xs) (h' : SqL X.K H a ys) : xs = ys := by
  obtain ⟨its, r, ⟨o, n, e, _, _, d⟩, _⟩ := I.list h
  obtain ⟨its', r', ⟨o', n', e', _, _, d'⟩, _⟩ := I.list h'
  rw [e] at e'; cases e'
  rw [d] at d'
  injection d' with d1 _
  have : its = its' := by simpa using congrArg Array.toList d1
  subst this
  exact r.inj r'
theorem Inv.tuple_inj (I : Inv X pins σ H s) (h : SqT X.K H a xs) (h' : SqT X.K H a ys) : xs = ys := by
  obtain ⟨its, r, ⟨o, e, _, n, d⟩, _⟩ := I.tuple h
  obtain ⟨its', r', ⟨o', e', _, n', d'⟩, _⟩ := I.tuple h'
  rw [e] at e'; cases e'
  rw [d] at d'
  injection d' with d1 _
  have : its = its' := by simpa using congrArg Array.toList d1
  subst this
  exact r.inj r'
end
abbrev Cx.wish (X : Cx) (E : Value → Shared → Prop) : Cx := { X with xe := E }
abbrev Cx.nox (X : Cx) : Cx := X.wish fun _ _ => False
theorem Cx.Ok.wish {X : Cx} (ok : X.Ok) (E : Value → Shared → Prop) : (X.wish E).Ok :=
  ⟨ok.mod, ok.kind, ok.glob, ok.blt, ok.above, ok.inj, ok.has, ok.cab, ok.hd, ok.frames, ok.stk, ok.exf, ok.bs, ok.bsz, ok.noex, ok.exfs, ok.funs, ok.frf⟩
theorem Cx.Ok.unwish {X : Cx} {E : Value → Shared → Prop} (ok : (X.wish E).Ok) : X.Ok :=
  ⟨ok.mod, ok.kind, ok.glob, ok.blt, ok.above, ok.inj, ok.has, ok.cab, ok.hd, ok.frames, ok.stk, ok.exf, ok.bs, ok.bsz, ok.noex, ok.exfs, ok.funs, ok.frf⟩
section
variable {X : Cx} {pins : List (Addr × Obj)} {σ : St} {H : Hp} {s : Shared} {E : Value → Shared → Prop}
theorem Inv.wish (I : Inv X pins σ H s) (E : Value → Shared → Prop) : Inv (X.wish E) pins σ H s := ⟨I.ok.wish E, I.os, I.bare, I.base, I.loc, I.cell, I.free, I.freeC, I.pin, I.hok, I.len⟩
theorem Inv.unwish (I : Inv (X.wish E) pins σ H s) : Inv X pins σ H s := ⟨I.ok.unwish, I.os, I.bare, I.base, I.loc, I.cell, I.free, I.freeC, I.pin, I.hok, I.len⟩
theorem SP.unwish {D : Ends} {f : Flow} {s' : Shared} (h : SP (X.wish E) pins D f s') : SP X pins D f s' := by
  cases f with
  | next => obtain ⟨σ', H', I, q⟩ := h; exact ⟨σ', H', I.unwish, q⟩
  | brk => obtain ⟨σ', H', I, q⟩ := h; exact ⟨σ', H', I.unwish, q⟩
  | cont => obtain ⟨σ', H', I, q⟩ := h; exact ⟨σ', H', I.unwish, q⟩
  | ret u => obtain ⟨v, σ', H', I, r, q⟩ := h; exact ⟨v, σ', H', I.unwish, r, q⟩
theorem PSs.nox {st : List Stmt} {t : TS} (h : PSs X.nox st t) : PSs X st t := fun pins s σ H D I hw =>
  wpAny_mono (h pins s σ H D (I.wish _) hw) (fun _ _ q => q.unwish) fun _ _ z => False.elim z
end
section
variable {X : Cx} {st : Stmt} {rest : List Stmt} {t u : TS} {e : Expr} {te : TE} {pos : Pos}
def tNext : TS := fun D σ H => D.nx σ H
def tSeq (t u : TS) : TS := fun D σ H => t { D with nx := u D } σ H
theorem pss_nil : PSs X [] tNext := fun _ _ σ H _ I h => wpAny_execs_nil ⟨σ, H, I, h⟩
theorem pss_cons (h1 : PS X st t) (h2 : PSs X rest u) : PSs X (st :: rest) (tSeq t u) := by
  intro pins s σ H D I h
  refine wpAny_execs_cons (thn (h1 pins s σ H { D with nx := u D } I h) fun f s1 q => ?_)
  cases f with
  | next =>
    obtain ⟨σ', H', I', q⟩ := q
    exact h2 pins s1 σ' H' D I' q
  | ret v => exact q
  | brk => exact q
  | cont => exact q
theorem pss_one (h1 : PS X st t) : PSs X [st] t := by
  intro pins s σ H D I h
  refine wpAny_execs_cons (thn (h1 pins s σ H D I h) fun f s1 q => ?_)
  cases f with
  | next => exact wpAny_execs_nil q
  | ret v => exact q
  | brk => exact q
  | cont => exact q
theorem Inv.quiet {pins : List (Addr × Obj)} {σ : St} {H : Hp} {s : Shared} (I : Inv X pins σ H s) : interactive X.env = false := by simp [interactive, I.ok.kind]
def tDrop (te : TE) : TS := fun D σ H => te σ H fun _ H1 => D.nx σ H1
theorem ps_expr (he : PE X e te) (hs : swapsWith e none pos.line X.env = pure false := by rfl) : PS X (.Expr e pos) (tDrop te) := by
  intro pins s σ H D I h
  exact wpAny_Expr_any (thn (he pins s σ H _ I h) fun v s1 ⟨x, H1, I1, r1, q1⟩ => ⟨σ, H1, I1, q1⟩) I.quiet hs
def tRet (te : TE) : TS := fun D σ H => te σ H D.rt
theorem ps_ret (he : PE X e te) : PS X (.Return (some e) pos) (tRet te) := by
  intro pins s σ H D I h
  exact wpAny_Return_some (thn (he pins s σ H _ I h) fun v s1 ⟨x, H1, I1, r1, q1⟩ => ⟨x, σ, H1, I1, r1, q1⟩)
def tIfS (c : TT) (t u : TS) : TS := fun D σ H => c σ H fun b H1 => if b = true then t D σ H1 else u D σ H1
theorem ps_if {c : Expr} {a b : List Stmt} {tc : TT} (hc : PT X c tc) (ha : PSs X a t) (hb : PSs X b u) : PS X (.If c a b pos) (tIfS tc t u) := by
  intro pins s σ H D I h
  refine wpAny_If (thn (hc pins s σ H _ I h) fun d s1 ⟨H1, I1, q1⟩ => ?_)
  cases d with
  | true => exact ha pins s1 σ H1 D I1 q1
  | false => exact hb pins s1 σ H1 D I1 q1
end
abbrev TG := V → St → Hp → (St → Hp → Prop) → Prop
abbrev TGs := List V → St → Hp → (St → Hp → Prop) → Prop
def PG (X : Cx) (target : Expr) (t : TG) : Prop :=
  ∀ (pins : List (Addr × Obj)) (s : Shared) (σ : St) (H : Hp) (v : V) (u : Value) (Q : St → Hp → Prop), Inv X pins σ H s → RelV v u → t v σ H Q →
    wpAny (model X.prog X.w) X.A (assign target X.env u) (fun _ s' => ∃ σ' H', Inv X pins σ' H' s' ∧ Q σ' H') X.xe s
def PGs (X : Cx) (ts : List Expr) (t : TGs) : Prop :=
  ∀ (pins : List (Addr × Obj)) (s : Shared) (σ : St) (H : Hp) (vs : List V) (us : List Value) (Q : St → Hp → Prop), Inv X pins σ H s → Vals vs us → t vs σ H Q →
    wpAny (model X.prog X.w) X.A (assignInOrder ((assignEach ts X.env).map (·.2)) us) (fun _ s' => ∃ σ' H', Inv X pins σ' H' s' ∧ Q σ' H') X.xe s
section
variable {X : Cx} {pos : Pos}
def gName (i : Nat) : TG := fun v σ H Q => Q (σ.set i (some v)) H
theorem pg_name {i : Nat} {x : Str} (hN : X.N.Nodup) (hi : X.N[i]? = some x) (hx : Loc X.env.scope x) (hf : X.fn x = true ∨ X.env.scope.names.lookup x = some .local := by first | exact .inl rfl | exact .inr rfl | assumption) : PG X (.Name x pos) (gName i) := by
  intro pins s σ H v u Q I r h
  exact wpAny_assign_Name (store_ok I hN hi hx r (fun s' I' => ⟨_, H, I', h⟩) hf)
def gNil : TGs := fun vs σ H Q => vs = [] ∧ Q σ H
def gCons (t : TG) (u : TGs) : TGs := fun vs σ H Q => ∃ v r, vs = v :: r ∧ t v σ H fun σ' H' => u r σ' H' Q
theorem pgs_nil : PGs X [] gNil := by
  intro pins s σ H vs us Q I r h
  obtain ⟨e, h⟩ := h
  subst e
  cases r
  exact assignInOrder_nil ⟨σ, H, I, h⟩
theorem pgs_cons {e : Expr} {es : List Expr} {t : TG} {u : TGs} (h1 : PG X e t) (h2 : PGs X es u)
    (hs : (assignEach (e :: es) X.env).map (·.2) = assign e X.env :: (assignEach es X.env).map (·.2) := by rfl) : PGs X (e :: es) (gCons t u) := by
  intro pins s σ H vs us Q I r h
  obtain ⟨v, vr, e1, h⟩ := h
  subst e1
  cases r with
  | cons r rr =>
    rw [hs]
    refine assignInOrder_cons (thn (h1 pins s σ H _ _ _ I r h) fun _ s1 ⟨σ1, H1, I1, q1⟩ => ?_)
    exact h2 pins s1 σ1 H1 _ _ Q I1 rr q1
def gTup (K : PySem.W.Frag) (n : Nat) (t : TGs) : TG := fun v σ H Q => ∃ a xs, v = .ref a ∧ SqT K H a xs ∧ xs.length = n ∧ t xs σ H Q
theorem pg_tup {es : List Expr} {k : Nat} {t : TGs} {n : Nat} (hc : X.calm = true) (h : PGs X es t)
    (hn : (assignEach es X.env).length = n := by rfl) (hst : (assignEach es X.env).findIdx? (·.1) = none := by rfl) : PG X (.Tuple es k pos) (gTup X.K n t) := by
  intro pins s σ H v u Q I r hw
  obtain ⟨a, xs, e1, hq, hl, hw⟩ := hw
  subst e1
  cases r
  obtain ⟨its, rv, ht, hz⟩ := I.tuple hq
  refine assign_Tuple_tuple (I.ok.hd hc) ht (by simp [hn, ← hl, rv.length]) hst fun h' hx => ?_
  have I1 : Inv X pins σ H { s with heap := h' } := I.kept (t' := s.toks) fun b o e => hx b o (Nat.ne_of_lt (Heap.lt_size e)) e
  exact h pins _ σ H xs _ Q I1 (by simpa using rv) hw
def tAsg (te : TE) (g : TG) : TS := fun D σ H => te σ H fun x H1 => g x σ H1 D.nx
theorem ps_asg {tg e : Expr} {te : TE} {g : TG} (he : PE X e te) (hg : PG X tg g) (hs : swapsWithSole [tg] e pos.line X.env = pure false := by rfl) (hw : swappedStores [tg] e X.env = pure none := by rfl)
    (h1 : (assignEach [tg] X.env).map (·.2) = [assign tg X.env] := by rfl) : PS X (.Assign [tg] e pos) (tAsg te g) := by
  intro pins s σ H D I h
  refine wpAny_Assign_stores (thn (he pins s σ H _ I h) fun v s1 ⟨x, H1, I1, r1, q1⟩ => ?_) hs hw
  rw [h1]
  exact thn (hg pins s1 σ H1 x v _ I1 r1 q1) fun _ s2 q => q
theorem ps_set {i : Nat} {x : Str} {e : Expr} {te : TE} {pos' : Pos} (hN : X.N.Nodup) (hi : X.N[i]? = some x) (hx : Loc X.env.scope x) (he : PE X e te) (hs : swapsWith e (some (.Name x pos')) pos.line X.env = pure false := by rfl) (hf : X.fn x = true ∨ X.env.scope.names.lookup x = some .local := by first | exact .inl rfl | exact .inr rfl | assumption) :
    PS X (.Assign [.Name x pos'] e pos) (tAsg te (gName i)) := by
  intro pins s σ H D I h
  refine wpAny_Assign_Name (thn (he pins s σ H _ I h) fun v s1 ⟨y, H1, I1, r1, q1⟩ => ?_) hs
  exact store_ok I1 hN hi hx r1 (fun s2 I2 => ⟨_, H1, I2, q1⟩) hf
end
section
variable {X : Cx} {pos : Pos}
def tWhile (c : TT) (tb : TS) : TS := fun D σ H => ∃ W : Nat → St → Hp → Prop, (∃ m, W m σ H) ∧ ∀ m σ H, W m σ H →
  c σ H fun b H1 => if b = true then ∃ N : St → Hp → Prop, (∀ σ' H', N σ' H' → ∃ m', m' < m ∧ W m' σ' H') ∧ tb { D with nx := N, ct := N, bk := D.nx } σ H1 else D.nx σ H1
theorem ps_while {c : Expr} {body : List Stmt} {tc : TT} {tb : TS} (hp : PassesOwn (model X.prog X.w) X.A X.env X.xe) (hc : PT X c tc) (hb : PSs X body tb) : PS X (.While c body [] pos) (tWhile tc tb) := by
  intro pins s σ H D I h
  obtain ⟨W, ⟨m0, w0⟩, turn⟩ := h
  refine wpAny_While (codeAny_whileLoop (fun n s' => ∃ σ' H', Inv X pins σ' H' s' ∧ W n σ' H') ?_ m0 ⟨σ, H, I, w0⟩)
  rintro n s1 ⟨σ1, H1, I1, w1⟩
  refine wpAny_passesOwn hp (thn (hc pins s1 σ1 H1 _ I1 (turn n σ1 H1 w1)) fun b s2 ⟨H2, I2, q2⟩ => ?_)
  cases b with
  | true =>
    obtain ⟨N, hN, q2⟩ := q2
    rw [if_pos rfl]
    refine wpAny_passesOwn hp (thn (hb pins s2 σ1 H2 _ I2 q2) fun f s3 q3 => ?_)
    cases f with
    | next =>
      obtain ⟨σ3, H3, I3, n3⟩ := q3
      obtain ⟨m', hm, w3⟩ := hN σ3 H3 n3
      exact ⟨m', hm, σ3, H3, I3, w3⟩
    | cont =>
      obtain ⟨σ3, H3, I3, n3⟩ := q3
      obtain ⟨m', hm, w3⟩ := hN σ3 H3 n3
      exact ⟨m', hm, σ3, H3, I3, w3⟩
    | brk => exact q3
    | ret v => exact q3
  | false =>
    rw [if_neg Bool.false_ne_true]
    exact wpAny_execs_nil ⟨σ1, H2, I2, q2⟩
end
structure It where
  go : Nat → Hp → Prop
  yld : Nat → Hp → V → Hp → Prop
  stop : Nat → Hp → Prop
def FpOk (X : Cx) (pins : List (Addr × Obj)) (H : Hp) (b : Addr) : Prop :=
  H b = none ∧ b ≠ X.env.locals ∧ b ∉ X.fs ∧ (b ∈ X.ex ∨ X.s₀.heap.objs.size ≤ b) ∧ (∀ x c, X.env.cells.lookup x = some c → c ≠ b) ∧ ∀ p ∈ X.pn ++ pins, p.1 ≠ b
theorem Inv.fpOk {X : Cx} {pins : List (Addr × Obj)} {σ : St} {H H' : Hp} {s : Shared} {b : Addr} (I : Inv X pins σ H s) (hb : s.heap.objs.size ≤ b) (hn : H' b = none) : FpOk X pins H' b := by
  refine ⟨hn, Nat.ne_of_gt (Nat.lt_of_lt_of_le I.lt hb), I.nofs hb, .inr (Nat.le_trans I.sz hb), fun x c e z => ?_, fun p hp z => ?_⟩
  · obtain ⟨v, q⟩ := I.cell x c e
    exact absurd (Nat.lt_of_lt_of_le q.lt (by rw [z]; exact hb)) (Nat.lt_irrefl _)
  · exact absurd (Nat.lt_of_lt_of_le (Heap.lt_size (I.pin p hp).1) (by rw [z]; exact hb)) (Nat.lt_irrefl _)
structure Turn (P : Program) (w : World) (K : PySem.W.Frag) (tg : Expr) (J : It) (fp : List Addr) (it : Addr) (tn : Nat → Heap → Prop) : Prop where
  mem : it ∈ fp
  obj : ∀ i h, tn i h → ∀ b ∈ fp, ∃ o, h.get? b = some o ∧ ∀ v, o.data ≠ .cell v
  keep : ∀ i h h', tn i h → (∀ b ∈ fp, ∀ o, h.get? b = some o → h'.get? b = some o) → tn i h'
  item : ∀ (X : Cx), X.prog = P → X.w = w → X.K = K → X.calm = true → ∀ (i : Nat) (pins : List (Addr × Obj)) (s : Shared) (σ : St) (H : Hp) (E : Value → Shared → Prop), Inv X pins σ H s → (∀ b ∈ fp, FpOk X pins H b) → tn i s.heap → J.go i H →
    wpAny (model P w) X.A (pyNext (.ref it)) (fun r s1 => ∃ u, r = some u ∧
      wpAny (model P w) X.A (letOwnedTupleGo tg (.ref it) u) (fun _ s2 => ∃ x H', Inv X pins σ H' s2 ∧ RelV x u ∧ J.yld i H x H' ∧ tn (i + 1) s2.heap ∧ ∀ b ∈ fp, H' b = none) E s1) E s
  done : ∀ (X : Cx), X.prog = P → X.w = w → X.K = K → X.calm = true → ∀ (i : Nat) (pins : List (Addr × Obj)) (s : Shared) (σ : St) (H : Hp) (E : Value → Shared → Prop), Inv X pins σ H s → (∀ b ∈ fp, FpOk X pins H b) → tn i s.heap → J.stop i H →
    wpAny (model P w) X.A (pyNext (.ref it)) (fun r s1 => r = none ∧ Inv X pins σ H s1) E s
  self : ∀ (A : Around) (i : Nat) (s : Shared) (Q : Value → Shared → Prop) (E : Value → Shared → Prop), tn i s.heap → Q (.ref it) s → wpAny (model P w) A (pyIter (.ref it)) Q E s
abbrev TI := St → Hp → (It → Hp → Prop) → Prop
def PIE (X : Cx) (pins : List (Addr × Obj)) (σ : St) (tg : Expr) (R : It → Hp → Prop) (itv : Value) (s2 : Shared) : Prop :=
  ∃ (it : Addr) (fp : List Addr) (tn : Nat → Heap → Prop) (J : It) (H' : Hp), itv = .ref it ∧ Inv X pins σ H' s2 ∧ Turn X.prog X.w X.K tg J fp it tn ∧ tn 0 s2.heap ∧ (∀ b ∈ fp, FpOk X pins H' b) ∧ R J H'
def PI (X : Cx) (tg iter : Expr) (wi : TI) : Prop :=
  ∀ (pins : List (Addr × Obj)) (s : Shared) (σ : St) (H : Hp) (R : It → Hp → Prop), Inv X pins σ H s → wi σ H R →
    wpAny (model X.prog X.w) X.A (eval iter X.env) (fun v s1 => wpAny (model X.prog X.w) X.A (pyIter v) (PIE X pins σ tg R) X.xe s1) X.xe s
theorem go_of {M : Model} {A : Around} {E : Value → Shared → Prop} {s : Shared} {tg : Expr} {it : Addr} {u : Value} {o : Obj} {n : String} {vs : Array Value} {Q : Unit → Shared → Prop} (ho : s.heap.get? it = some o) (hc : o.cls = .type n) (hd : o.data = .fields vs)
    (hn : ["enumerate", "zip", "dict_itemiterator", "dict_reverseitemiterator", "odict_iterator", "itertools.zip_longest", "itertools.pairwise"].contains n = false) (hQ : Q () s) : wpAny M A (letOwnedTupleGo tg (.ref it) u) Q E s := by
  unfold letOwnedTupleGo
  cases tg <;> first
    | exact wpAny_pure hQ
    | (cases u <;> first
        | exact wpAny_pure hQ
        | (refine wpAny_bind (wpAny_load ho ?_)
           rw [hc, hd]
           show wpAny M A (if (["enumerate", "zip", "dict_itemiterator", "dict_reverseitemiterator", "odict_iterator", "itertools.zip_longest", "itertools.pairwise"].contains n && vs[0]? == some (rawInt _)) = true then _ else _) Q E s
           rw [if_neg (by intro h; rw [hn, Bool.false_and] at h; cases h)]
           exact wpAny_pure hQ))
def Itl (K : PySem.W.Frag) (a : Addr) : It :=
  ⟨fun i H => ∃ xs x, SqL K H a xs ∧ xs[i]? = some x, fun i H x H' => H' = H ∧ ∀ xs, SqL K H a xs → xs[i]? = some x, fun i H => ∃ xs, SqL K H a xs ∧ xs.length ≤ i⟩
def Itt (K : PySem.W.Frag) (a : Addr) : It :=
  ⟨fun i H => ∃ xs x, SqT K H a xs ∧ xs[i]? = some x, fun i H x H' => H' = H ∧ ∀ xs, SqT K H a xs → xs[i]? = some x, fun i H => ∃ xs, SqT K H a xs ∧ xs.length ≤ i⟩
def Itr (lo : Int) (n : Nat) : It := ⟨fun i _ => i < n, fun i H x H' => H' = H ∧ x = .int (lo + i), fun i _ => n ≤ i⟩
theorem turn_list {P : Program} {w : World} {K : PySem.W.Frag} {tg : Expr} (a it : Addr) : Turn P w K tg (Itl K a) [it] it (fun i h => h.IsListIter it a i) where
  mem := by simp
  obj := fun i h st b hb => by
    have e : b = it := by simpa using hb
    subst e
    obtain ⟨o, e, c, d⟩ := st
    exact ⟨o, e, fun v z => by rw [d] at z; cases z⟩
  keep := fun i h h' st k => st.at fun o e => k it (by simp) o e
  item := by
    intro X hP hw hK hc i pins s σ H E I hf st hg
    subst hP hw hK
    obtain ⟨xs, x, hq, hx⟩ := hg
    obtain ⟨its, rv, p, hz⟩ := I.list hq
    obtain ⟨u, hu, ru⟩ := rv.get hx
    obtain ⟨f0, f1, f2, f3, f4, f5⟩ := hf it (by simp)
    refine wpAny_pyNext_list_item st p.isList (x := u) (by simpa using hu) fun h' st' sb => ?_
    have I1 : Inv X pins σ H { s with heap := h' } := I.turned (t' := s.toks) (fun b o hb e => (sb.2 b hb).trans e) f0 f1 f3 f4 f5
    obtain ⟨o, e, c, d⟩ := id st'
    exact ⟨u, rfl, go_of (s := { s with heap := h' }) e c d (by decide) ⟨x, H, I1, ru, ⟨rfl, fun ys hy => by rw [I.list_inj hy hq]; exact hx⟩, st', fun b hb => (hf b hb).1⟩⟩
  done := by
    intro X hP hw hK hc i pins s σ H E I hf st hg
    subst hP hw hK
    obtain ⟨xs, hq, hx⟩ := hg
    obtain ⟨its, rv, p, hz⟩ := I.list hq
    obtain ⟨f0, f1, f2, f3, f4, f5⟩ := hf it (by simp)
    have hl := rv.length
    exact wpAny_pyNext_list_end (I.ok.hd hc) st p.isList (by simp; omega) fun h' eb => ⟨rfl, I.turned (t' := s.toks) (fun b o hb e => eb b o hb e) f0 f1 f3 f4 f5⟩
  self := fun _ _ _ _ _ st h => wpAny_pyIter_listiter st h
theorem turn_range {P : Program} {w : World} {K : PySem.W.Frag} {tg : Expr} (it : Addr) (lo : Int) (n : Nat) : Turn P w K tg (Itr lo n) [it] it (fun i h => IsRangeIter h it (lo + (i : Nat) * 1) ((n : Int) - (i : Nat)) 1) where
  mem := by simp
  obj := fun i h st b hb => by
    have e : b = it := by simpa using hb
    subst e
    exact ⟨_, st, fun v z => by
      have z' : Data.fields _ = Data.cell v := z
      cases z'⟩
  keep := fun i h h' st k => k it (by simp) _ st
  item := by
    intro X hP hw hK hc i pins s σ H E I hf st hg
    subst hP hw hK
    obtain ⟨f0, f1, f2, f3, f4, f5⟩ := hf it (by simp)
    have W := Walks.range (prog := X.prog) (w := X.w) (I.ok.hd hc) it lo 1 n
    refine W.item i s _ _ hg st fun v h' tk hv st' kk => ?_
    obtain ⟨t, rfl⟩ := hv
    have I1 : Inv X pins σ H { s with heap := h', toks := tk } := I.turned (fun b o hb e => kk b o (by simpa using hb) e) f0 f1 f3 f4 f5
    refine ⟨_, rfl, go_of (s := { s with heap := h', toks := tk }) (n := "range_iterator") st' rfl rfl (by decide) ⟨.int (lo + i), H, I1, ⟨t, ?_⟩, ⟨rfl, rfl⟩, st', fun b hb => (hf b hb).1⟩⟩
    rw [Int.mul_one]
  done := by
    intro X hP hw hK hc i pins s σ H E I hf st hg
    subst hP hw hK
    obtain ⟨f0, f1, f2, f3, f4, f5⟩ := hf it (by simp)
    exact wpAny_pyNext_range_end (I.ok.hd hc) st (by have : n ≤ i := hg; omega) fun h' eb => ⟨rfl, I.turned (t' := s.toks) (fun b o hb e => eb b o hb e) f0 f1 f3 f4 f5⟩
  self := fun _ _ _ _ _ st h => wpAny_pyIter_rangeiter st h
end L2
namespace L2
open PySem PySem.Spec PyProof.Rows
section
variable {X : Cx} {tg : Expr}
def iList (K : PySem.W.Frag) (tl : TE) : TI := fun σ H R => tl σ H fun x H1 => ∃ a, x = .ref a ∧ (∃ xs, SqL K H1 a xs) ∧ R (Itl K a) H1
theorem pi_list {l : Expr} {tl : TE} (hl : PE X l tl) : PI X tg l (iList X.K tl) := by
  intro pins s σ H R I h
  refine thn (hl pins s σ H _ I h) fun v s1 ⟨x, H1, I1, r1, q1⟩ => ?_
  obtain ⟨a, e, ⟨xs, hq⟩, q⟩ := q1
  subst e
  cases r1
  obtain ⟨its, rv, p, hz⟩ := I1.list hq
  refine wpAny_pyIter_list p.isList ?_
  refine ⟨s1.heap.objs.size, [s1.heap.objs.size], _, _, H1, rfl, I1.kept (t' := s1.toks) fun b o e => Heap.get?_push_of_some _ e, turn_list a _, ⟨_, Heap.get?_push_size _ rfl, rfl, rfl⟩, fun b hb => ?_, q⟩
  have e : b = s1.heap.objs.size := by simpa using hb
  subst e
  exact I1.fpOk (Nat.le_refl _) (I1.hok.fresh (Nat.le_refl _))
theorem range_it {pins : List (Addr × Obj)} {σ : St} {H : Hp} {s : Shared} {R : It → Hp → Prop} {E : Value → Shared → Prop} {lo hi : Int} {t u v : Tok} {tk : Nat} (I : Inv X pins σ H s) (h1 : -(2 ^ 62) ≤ lo) (h2 : lo < 2 ^ 62) (h3 : -(2 ^ 62) ≤ hi) (h4 : hi < 2 ^ 62)
    (q : R (Itr lo (hi - lo).toNat) H) : wpAny (model X.prog X.w) X.A (pyIter (.ref s.heap.objs.size)) (PIE X pins σ tg R) E { s with heap := s.heap.push { cls := .type "range", data := .fields #[.int lo t, .int hi u, .int 1 v] }, toks := tk } := by
  refine wpAny_pyIter_range (IsRange.new ..) (small_one h1 h2 h3 h4) ?_
  have I1 : Inv X pins σ H { s with heap := s.heap.push { cls := .type "range", data := .fields #[.int lo t, .int hi u, .int 1 v] }, toks := tk } := I.kept fun b o e => Heap.get?_push_of_some _ e
  refine ⟨(s.heap.push { cls := .type "range", data := .fields #[.int lo t, .int hi u, .int 1 v] }).objs.size, [(s.heap.push { cls := .type "range", data := .fields #[.int lo t, .int hi u, .int 1 v] }).objs.size], _, _, H, rfl,
    I1.kept (t' := tk) fun b o e => Heap.get?_push_of_some _ e, turn_range _ lo (hi - lo).toNat, ?_, fun b hb => ?_, q⟩
  · have e1 : lo + ((0 : Nat) : Int) * 1 = lo := by simp
    have e2 : (((hi - lo).toNat : Nat) : Int) - ((0 : Nat) : Int) = Builtin.Range.rangeSize lo hi 1 := by rw [rangeSize_one]; split <;> omega
    show IsRangeIter _ _ (lo + ((0 : Nat) : Int) * 1) ((((hi - lo).toNat : Nat) : Int) - ((0 : Nat) : Int)) 1
    rw [e1, e2]
    exact Heap.get?_push_size _ rfl
  · have e : b = (s.heap.push { cls := .type "range", data := .fields #[.int lo t, .int hi u, .int 1 v] }).objs.size := by simpa using hb
    subst e
    exact I1.fpOk (Nat.le_refl _) (I1.hok.fresh (Nat.le_refl _))
def iRng1 (ta : TA) : TI := fun σ H R => ta σ H fun vs H1 => ∃ j : Int, vs = [.int j] ∧ -(2 ^ 62) ≤ j ∧ j < 2 ^ 62 ∧ R (Itr 0 j.toNat) H1
def iRng2 (ta : TA) : TI := fun σ H R => ta σ H fun vs H1 => ∃ i j : Int, vs = [.int i, .int j] ∧ (-(2 ^ 62) ≤ i ∧ i < 2 ^ 62 ∧ -(2 ^ 62) ≤ j ∧ j < 2 ^ 62) ∧ R (Itr i (j - i).toNat) H1
theorem pi_range1 {a : Expr} {ta : TA} {p pos : Pos} (hg : Gl X "range") (hm : X.mg "range" = none) (ha : PA X [a] ta) (hs : starEach [a] X.env = [(false, eval a X.env)] := by rfl) : PI X tg (.Call (.Name "range" p) [a] [] pos) (iRng1 ta) := by
  intro pins s σ H R I h
  refine Call_ (ld_blt I hg hm boot_range (PyProof.Rows.callWith_type1 (thn (ha pos pins s σ H _ I h) fun us s1 ⟨vs, H1, I1, r1, q1⟩ => ?_) hs rfl))
  obtain ⟨j, e, q1, q2, q⟩ := q1
  subst e
  cases r1 with
  | cons r rr =>
    cases rr
    obtain ⟨t, rfl⟩ := r
    exact call_range_1 (range_it I1 (by omega) (by omega) q1 q2 (by simpa using q))
theorem pi_range2 {a b : Expr} {ta : TA} {p pos : Pos} (hg : Gl X "range") (hm : X.mg "range" = none) (ha : PA X [a, b] ta) (hs : starEach [a, b] X.env = [(false, eval a X.env), (false, eval b X.env)] := by rfl) (hs2 : starEach [b] X.env = [(false, eval b X.env)] := by rfl) :
    PI X tg (.Call (.Name "range" p) [a, b] [] pos) (iRng2 ta) := by
  intro pins s σ H R I h
  refine Call_ (ld_blt I hg hm boot_range (PyProof.Rows.callWith_type1 (thn (ha pos pins s σ H _ I h) fun us s1 ⟨vs, H1, I1, r1, q1⟩ => ?_) (by rw [hs, hs2]) (by rw [hs2]; rfl)))
  obtain ⟨i, j, e, ⟨q1, q2, q3, q4⟩, q⟩ := q1
  subst e
  cases r1 with
  | cons r rr =>
    cases rr with
    | cons r' rr =>
      cases rr
      obtain ⟨t, rfl⟩ := r
      obtain ⟨t', rfl⟩ := r'
      exact call_range_2 (range_it I1 q1 q2 q3 q4 q)
def tFor (wi : TI) (g : TG) (tb : TS) : TS := fun D σ H => wi σ H fun J H1 => ∃ W : Nat → Nat → St → Hp → Prop, (∃ m, W 0 m σ H1) ∧ ∀ i m σ H, W i m σ H →
  (J.stop i H ∧ D.nx σ H) ∨ (J.go i H ∧ ∃ N : St → Hp → Prop, (∀ σ' H', N σ' H' → ∃ m', m' < m ∧ W (i + 1) m' σ' H') ∧ ∀ x H', J.yld i H x H' → g x σ H' fun σ2 H2 => tb { D with nx := N, ct := N, bk := D.nx } σ2 H2)
def pinsAt (fp : List Addr) (h : Heap) : List (Addr × Obj) := fp.filterMap fun b => (h.get? b).map fun o => (b, o)
theorem mem_pinsAt {fp : List Addr} {h : Heap} {b : Addr} {o : Obj} (hb : b ∈ fp) (e : h.get? b = some o) : (b, o) ∈ pinsAt fp h := List.mem_filterMap.mpr ⟨b, hb, by rw [e]; rfl⟩
theorem of_pinsAt {fp : List Addr} {h : Heap} {p : Addr × Obj} (hp : p ∈ pinsAt fp h) : p.1 ∈ fp ∧ h.get? p.1 = some p.2 := by
  obtain ⟨b, hb, e⟩ := List.mem_filterMap.mp hp
  cases q : h.get? b with
  | none => rw [q] at e; cases e
  | some o =>
    rw [q] at e
    have e' : (b, o) = p := Option.some.inj e
    subst e'
    exact ⟨hb, q⟩
theorem Inv.pinned {pins : List (Addr × Obj)} {σ : St} {H : Hp} {s : Shared} {fp : List Addr} (I : Inv X pins σ H s) (hf : ∀ b ∈ fp, FpOk X pins H b) (ho : ∀ b ∈ fp, ∃ o, s.heap.get? b = some o ∧ ∀ v, o.data ≠ .cell v) : Inv X (pins ++ pinsAt fp s.heap) σ H s :=
  I.pins_of fun p hp => (List.mem_append.mp hp).elim (fun z => I.pin p (List.mem_append_right _ z)) fun z => by
    obtain ⟨hb, e⟩ := of_pinsAt z
    obtain ⟨f0, f1, f2, _⟩ := hf p.1 hb
    obtain ⟨o, e', d⟩ := ho p.1 hb
    rw [e] at e'; cases e'
    exact ⟨e, f0, f1, f2, d⟩
theorem Inv.unpinned {pins pl : List (Addr × Obj)} {σ : St} {H : Hp} {s : Shared} (I : Inv X (pins ++ pl) σ H s) : Inv X pins σ H s := I.pins_of fun p hp => I.pin p (List.mem_append_right _ (List.mem_append_left _ hp))
theorem ps_for {iter : Expr} {body : List Stmt} {wi : TI} {g : TG} {tb : TS} {pos : Pos} (hp : PassesOwn (model X.prog X.w) X.A X.env X.xe) (hc : X.calm = true) (hi : PI X tg iter wi) (hg : PG X tg g) (hb : PSs X body tb)
    (hs : ∀ x, foldedSetIterable iter X.env x = pure x := by intro _; rfl) : PS X (.For tg iter body [] pos) (tFor wi g tb) := by
  intro pins s σ H D I h
  refine wpAny_For (thn (hi pins s σ H _ I h) fun v s1 h1 => thn h1 fun itv s2 h2 => ?_) hs
  obtain ⟨it, fp, tn, J, H2, e, I2, T, st2, f2, W, ⟨m0, w0⟩, turn⟩ := h2
  subst e
  have stat : ∀ {H' : Hp}, (∀ b ∈ fp, H' b = none) → ∀ b ∈ fp, FpOk X pins H' b := fun hn b hb => ⟨hn b hb, (f2 b hb).2⟩
  refine codeAny_forLoop_any (fun n s' => ∃ i σ' H', Inv X pins σ' H' s' ∧ tn i s'.heap ∧ (∀ b ∈ fp, H' b = none) ∧ W i n σ' H') ?_ m0 ⟨0, σ, H2, I2, st2, fun b hb => (f2 b hb).1, w0⟩
  rintro n s3 ⟨i, σ3, H3, I3, st3, fr3, w3⟩
  rcases turn i n σ3 H3 w3 with ⟨stop, qn⟩ | ⟨go, N, hN, step⟩
  · refine wpAny_passesOwn hp (thn (T.done X rfl rfl rfl hc i pins s3 σ3 H3 X.xe I3 (stat fr3) st3 stop) fun r s4 ⟨hr, I4⟩ => ?_)
    subst hr
    exact wpAny_execs_nil ⟨σ3, H3, I4, qn⟩
  · refine wpAny_passesOwn hp (thn (T.item X rfl rfl rfl hc i pins s3 σ3 H3 X.xe I3 (stat fr3) st3 go) fun r s4 ⟨u, hr, h4⟩ => ?_)
    subst hr
    refine wpAny_passesOwn hp (thn h4 fun _ s5 ⟨x, H5, I5, r5, y5, st5, fr5⟩ => ?_)
    have I5' := I5.pinned (stat fr5) (T.obj _ _ st5)
    refine wpAny_passesOwn hp (thn (hg _ s5 σ3 H5 x u _ I5' r5 (step x H5 y5)) fun _ s6 ⟨σ6, H6, I6, q6⟩ => ?_)
    refine wpAny_passesOwn hp (thn (hb _ s6 σ6 H6 _ I6 q6) fun f s7 q7 => ?_)
    have again : ∀ {σ7 : St} {H7 : Hp}, Inv X (pins ++ pinsAt fp s5.heap) σ7 H7 s7 → N σ7 H7 → ∃ m, m < n ∧ ∃ i σ' H', Inv X pins σ' H' s7 ∧ tn i s7.heap ∧ (∀ b ∈ fp, H' b = none) ∧ W i m σ' H' := fun {σ7 H7} I7 n7 => by
      obtain ⟨m', hm, w7⟩ := hN σ7 H7 n7
      refine ⟨m', hm, i + 1, σ7, H7, I7.unpinned, T.keep _ _ _ st5 fun b hb o e => (I7.pin (b, o) (List.mem_append_right _ (List.mem_append_right _ (mem_pinsAt hb e)))).1, fun b hb => ?_, w7⟩
      obtain ⟨o, e, d⟩ := T.obj _ _ st5 b hb
      exact (I7.pin (b, o) (List.mem_append_right _ (List.mem_append_right _ (mem_pinsAt hb e)))).2.1
    cases f with
    | next => obtain ⟨σ7, H7, I7, n7⟩ := q7; exact again I7 n7
    | cont => obtain ⟨σ7, H7, I7, n7⟩ := q7; exact again I7 n7
    | brk => obtain ⟨σ7, H7, I7, q7⟩ := q7; exact ⟨σ7, H7, I7.unpinned, q7⟩
    | ret v => obtain ⟨x7, σ7, H7, I7, r7, q7⟩ := q7; exact ⟨x7, σ7, H7, I7.unpinned, r7, q7⟩
end
theorem for_list {K : PySem.W.Frag} {a : Addr} {xs : List V} {g : TG} {tb : TS} {D : Ends} {σ : St} {H : Hp} (Pv : Nat → St → Hp → Prop) (h0 : Pv 0 σ H) (hl : ∀ i σ H, i ≤ xs.length → Pv i σ H → SqL K H a xs)
    (hs : ∀ i x σ H, xs[i]? = some x → Pv i σ H → g x σ H fun σ2 H2 => tb { D with nx := Pv (i + 1), ct := Pv (i + 1), bk := D.nx } σ2 H2) (hd : ∀ σ H, Pv xs.length σ H → D.nx σ H) :
    ∃ W : Nat → Nat → St → Hp → Prop, (∃ m, W 0 m σ H) ∧ ∀ i m σ H, W i m σ H →
      ((Itl K a).stop i H ∧ D.nx σ H) ∨ ((Itl K a).go i H ∧ ∃ N : St → Hp → Prop, (∀ σ' H', N σ' H' → ∃ m', m' < m ∧ W (i + 1) m' σ' H') ∧ ∀ x H', (Itl K a).yld i H x H' → g x σ H' fun σ2 H2 => tb { D with nx := N, ct := N, bk := D.nx } σ2 H2) := by
  refine ⟨fun i m σ H => m = xs.length - i ∧ i ≤ xs.length ∧ Pv i σ H, ⟨xs.length, by simp, Nat.zero_le _, h0⟩, ?_⟩
  rintro i m σ H ⟨rfl, hi, p⟩
  have q := hl i σ H hi p
  by_cases hlt : i < xs.length
  · refine .inr ⟨⟨xs, xs[i], q, by simp [hlt]⟩, Pv (i + 1), fun σ' H' p' => ⟨xs.length - (i + 1), by omega, rfl, hlt, p'⟩, fun x H' y => ?_⟩
    obtain ⟨e, y⟩ := y
    subst e
    exact hs i x σ _ (y xs q) p
  · have e : i = xs.length := by omega
    subst e
    exact .inl ⟨⟨xs, q, Nat.le_refl _⟩, hd σ H p⟩
theorem for_range {lo : Int} {n : Nat} {g : TG} {tb : TS} {D : Ends} {σ : St} {H : Hp} (Pv : Nat → St → Hp → Prop) (h0 : Pv 0 σ H)
    (hs : ∀ i σ H, i < n → Pv i σ H → g (.int (lo + i)) σ H fun σ2 H2 => tb { D with nx := Pv (i + 1), ct := Pv (i + 1), bk := D.nx } σ2 H2) (hd : ∀ σ H, Pv n σ H → D.nx σ H) :
    ∃ W : Nat → Nat → St → Hp → Prop, (∃ m, W 0 m σ H) ∧ ∀ i m σ H, W i m σ H →
      ((Itr lo n).stop i H ∧ D.nx σ H) ∨ ((Itr lo n).go i H ∧ ∃ N : St → Hp → Prop, (∀ σ' H', N σ' H' → ∃ m', m' < m ∧ W (i + 1) m' σ' H') ∧ ∀ x H', (Itr lo n).yld i H x H' → g x σ H' fun σ2 H2 => tb { D with nx := N, ct := N, bk := D.nx } σ2 H2) := by
  refine ⟨fun i m σ H => m = n - i ∧ i ≤ n ∧ Pv i σ H, ⟨n, by simp, Nat.zero_le _, h0⟩, ?_⟩
  rintro i m σ H ⟨rfl, hi, p⟩
  by_cases hlt : i < n
  · refine .inr ⟨hlt, Pv (i + 1), fun σ' H' p' => ⟨n - (i + 1), by omega, rfl, hlt, p'⟩, fun x H' y => ?_⟩
    obtain ⟨e, y⟩ := y
    subst e y
    exact hs i σ _ hlt p
  · have e : i = n := by omega
    subst e
    exact .inl ⟨Nat.le_refl _, hd σ H p⟩
theorem while_by {c : TT} {tb : TS} {D : Ends} {σ : St} {H : Hp} (Pv : St → Hp → Prop) (μ : St → Hp → Nat) (h0 : Pv σ H)
    (hs : ∀ σ H, Pv σ H → c σ H fun b H1 => if b = true then tb { D with nx := fun σ' H' => Pv σ' H' ∧ μ σ' H' < μ σ H, ct := fun σ' H' => Pv σ' H' ∧ μ σ' H' < μ σ H, bk := D.nx } σ H1 else D.nx σ H1)
    (mono : ∀ σ H Q Q', (∀ b H1, Q b H1 → Q' b H1) → c σ H Q → c σ H Q') : tWhile c tb D σ H := by
  refine ⟨fun m σ H => m = μ σ H ∧ Pv σ H, ⟨_, rfl, h0⟩, ?_⟩
  rintro m σ H ⟨rfl, p⟩
  refine mono σ H _ _ (fun b H1 q => ?_) (hs σ H p)
  cases b with
  | true => exact ⟨_, fun σ' H' ⟨p', l⟩ => ⟨_, l, rfl, p'⟩, q⟩
  | false => exact q
end L2
namespace L2
open PySem PySem.Spec PyProof.Rows
abbrev R2 := V → V → Hp → VK → Prop
def OpR (X : Cx) (f : Value → Value → Sem Value) (r : R2) : Prop :=
  ∀ (pins : List (Addr × Obj)) (s : Shared) (σ : St) (H : Hp) (x y : V) (v u : Value) (Q : VK), Inv X pins σ H s → RelV x v → RelV y u → r x y H Q →
    wpAny (model X.prog X.w) X.A (f v u) (EP X pins σ Q) X.xe s
def CallR (X : Cx) (f : Value) (r : List V → Hp → VK → Prop) : Prop :=
  ∀ (pins : List (Addr × Obj)) (s : Shared) (σ : St) (H : Hp) (xs : List V) (us : List Value) (Q : VK), Inv X pins σ H s → Vals xs us → r xs H Q →
    wpAny (model X.prog X.w) X.A (call f us) (EP X pins σ Q) X.xe s
def tOp (r : R2) (ta tb : TE) : TE := fun σ H Q => ta σ H fun x H1 => tb σ H1 fun y H2 => r x y H2 Q
def rI (C : Int → Int → Prop) (g : Int → Int → V) : R2 := fun x y H Q => ∃ i j, x = .int i ∧ y = .int j ∧ C i j ∧ Q (g i j) H
def rI0 (g : Int → Int → V) : R2 := fun x y H Q => ∃ i j, x = .int i ∧ y = .int j ∧ Q (g i j) H
section
variable {X : Cx} {a b c : Expr} {ta tb tc : TE} {pos : Pos}
theorem binT (ha : PE X a ta) (hb : PE X b tb) {pins : List (Addr × Obj)} {s : Shared} {σ : St} {H : Hp} {R : V → V → Hp → Prop} (I : Inv X pins σ H s)
    (h : ta σ H fun x H1 => tb σ H1 fun y H2 => R x y H2) {Q : Value → Shared → Prop} {f : Value → Value → Sem Value}
    (hf : ∀ v u s2 x y H2, Inv X pins σ H2 s2 → RelV x v → RelV y u → R x y H2 → wpAny (model X.prog X.w) X.A (f v u) Q X.xe s2) :
    wpAny (model X.prog X.w) X.A (eval a X.env) (fun v s₁ => wpAny (model X.prog X.w) X.A (eval b X.env) (fun u s₂ => wpAny (model X.prog X.w) X.A (f v u) Q X.xe s₂) X.xe s₁) X.xe s := by
  refine thn (ha pins s σ H _ I h) fun v s1 ⟨x, H1, I1, r1, q1⟩ => ?_
  refine thn (hb pins s1 σ H1 _ I1 q1) fun u s2 ⟨y, H2, I2, r2, q2⟩ => ?_
  exact hf v u s2 x y H2 I2 r1 r2 q2
theorem pe_op {op : Operator} {r : R2} (ho : OpR X (binaryOp op) r) (ha : PE X a ta) (hb : PE X b tb) : PE X (.BinOp a op b pos) (tOp r ta tb) := by
  intro pins s σ H Q I h
  exact wpAny_BinOp (binT ha hb I h fun v u s2 x y H2 I2 rx ry q => ho pins s2 σ H2 x y v u Q I2 rx ry q)
theorem opI {f : Value → Value → Sem Value} {C : Int → Int → Prop} {g : Int → Int → Int}
    (rule : ∀ (i j : Int) (t u : Tok) (s : Shared) (Q : Value → Shared → Prop) (E : Value → Shared → Prop), C i j → Q (.int (g i j) s.toks) { s with toks := s.toks + 1 } → wpAny (model X.prog X.w) X.A (f (.int i t) (.int j u)) Q E s) :
    OpR X f (rI C fun i j => .int (g i j)) := by
  intro pins s σ H x y v u Q I rx ry h
  obtain ⟨i, j, rfl, rfl, hc, q⟩ := h
  obtain ⟨t, rfl⟩ := rx
  obtain ⟨t', rfl⟩ := ry
  exact rule i j t t' s _ _ hc ⟨.int (g i j), H, I.tok _, ⟨_, rfl⟩, q⟩
theorem opI0 {f : Value → Value → Sem Value} {g : Int → Int → Int}
    (rule : ∀ (i j : Int) (t u : Tok) (s : Shared) (Q : Value → Shared → Prop) (E : Value → Shared → Prop), Q (.int (g i j) s.toks) { s with toks := s.toks + 1 } → wpAny (model X.prog X.w) X.A (f (.int i t) (.int j u)) Q E s) :
    OpR X f (rI0 fun i j => .int (g i j)) := by
  intro pins s σ H x y v u Q I rx ry h
  obtain ⟨i, j, rfl, rfl, q⟩ := h
  obtain ⟨t, rfl⟩ := rx
  obtain ⟨t', rfl⟩ := ry
  exact rule i j t t' s _ _ ⟨.int (g i j), H, I.tok _, ⟨_, rfl⟩, q⟩
theorem opB0 {f : Value → Value → Sem Value} {g : Int → Int → Bool}
    (rule : ∀ (i j : Int) (t u : Tok) (s : Shared) (Q : Value → Shared → Prop) (E : Value → Shared → Prop), Q (.bool (g i j)) s → wpAny (model X.prog X.w) X.A (f (.int i t) (.int j u)) Q E s) :
    OpR X f (rI0 fun i j => .bl (g i j)) := by
  intro pins s σ H x y v u Q I rx ry h
  obtain ⟨i, j, rfl, rfl, q⟩ := h
  obtain ⟨t, rfl⟩ := rx
  obtain ⟨t', rfl⟩ := ry
  exact rule i j t t' s _ _ ⟨.bl (g i j), H, I, rfl, q⟩
def CDiv (i j : Int) : Prop := 0 < j ∧ j < 1073741824
def CMul (i j : Int) : Prop := (-(2 ^ 64) < i ∧ i < 2 ^ 64) ∨ (-(2 ^ 64) < j ∧ j < 2 ^ 64)
theorem CMul.ok {i j : Int} (h : CMul i j) : IntMulOk i j := by
  rcases h with ⟨h1, h2⟩ | ⟨h1, h2⟩
  · exact .of_left (intBits_le_64 h1 h2)
  · exact .of_right (intBits_le_64 h1 h2)
theorem two_pow_nn (k : Nat) : (0 : Int) ≤ 2 ^ k := by
  rw [two_pow_cast]
  exact Int.natCast_nonneg _
theorem op_add : OpR X (binaryOp .Add) (rI0 fun i j => .int (i + j)) := opI0 fun _ _ _ _ _ _ _ q => add_int q
theorem op_sub : OpR X (binaryOp .Sub) (rI0 fun i j => .int (i - j)) := opI0 fun _ _ _ _ _ _ _ q => sub_int q
theorem op_mul : OpR X (binaryOp .Mult) (rI CMul fun i j => .int (i * j)) := opI fun _ _ _ _ _ _ _ hc q => mul_int q hc.ok
theorem op_fdiv : OpR X (binaryOp .FloorDiv) (rI CDiv fun i j => .int (i / j)) := opI fun i j _ _ _ _ _ hc q => by
  have h1 : (0 : Int) < j := hc.1
  have h2 : j < 1073741824 := hc.2
  exact floordiv_int (by omega) (by rw [Int.fdiv_eq_ediv_of_nonneg i (by omega)]; exact q) (.inl (PyProof.noPylong_small (by omega)))
theorem op_mod : OpR X (binaryOp .Mod) (rI (fun _ j => 0 < j) fun i j => .int (i % j)) := opI fun i j _ _ _ _ _ hc q => by
  have h1 : (0 : Int) < j := hc
  exact mod_int' (by omega) (by rw [Int.fmod_eq_emod_of_nonneg i (by omega)]; exact q)
theorem op_shr : OpR X (binaryOp .RShift) (rI (fun _ j => 0 ≤ j) fun i j => .int (i / 2 ^ j.toNat)) := opI fun i j _ _ _ _ _ hc q =>
  rshift_int hc (by rw [Int.fdiv_eq_ediv_of_nonneg i (two_pow_nn _)]; exact q)
end
def scal : V → V → Bool
  | .non, .non => true | .non, .int _ => true | .int _, .non => true | .non, .bl _ => true | .bl _, .non => true | .non, .str _ => true | .str _, .non => true
  | .int _, .int _ => true | .bl _, .bl _ => true | .str _, .str _ => true | .byt _, .byt _ => true
  | .int _, .str _ => true | .str _, .int _ => true | .bl _, .str _ => true | .str _, .bl _ => true
  | _, _ => false
def rEq : R2 := fun x y H Q => scal x y = true ∧ Q (.bl (decide (x = y))) H
def rNe : R2 := fun x y H Q => scal x y = true ∧ Q (.bl (!decide (x = y))) H
theorem dec_int {i j : Int} : decide (V.int i = V.int j) = (i == j) := by
  rw [Bool.eq_iff_iff]
  simp
theorem dec_bl {i j : Bool} : decide (V.bl i = V.bl j) = (i == j) := by
  rw [Bool.eq_iff_iff]
  simp
theorem dec_str {i j : Str} : decide (V.str i = V.str j) = (i == j) := by
  rw [Bool.eq_iff_iff]
  simp
theorem dec_byt {i j : Array UInt8} : decide (V.byt i = V.byt j) = (i.toList == j.toList) := by
  rw [Bool.eq_iff_iff]
  cases i
  cases j
  simp
section
variable {X : Cx} {a b c : Expr} {ta tb tc : TE} {pos : Pos}
theorem fin_bl {pins : List (Addr × Obj)} {σ : St} {H : Hp} {s : Shared} {Q : VK} {k k' : Bool} (I : Inv X pins σ H s) (q : Q (.bl k) H) (e : k = k') : EP X pins σ Q (.bool k') s := by
  subst e
  exact ⟨.bl k, H, I, rfl, q⟩
theorem op_eq : OpR X (compareOp .Eq) rEq := by
  intro pins s σ H x y v u Q I rx ry h
  obtain ⟨hs, q⟩ := h
  cases x with
  | non =>
    cases rx
    cases y with
    | non => cases ry; exact PySem.EqNone.eq_none_none (fin_bl I q (by simp))
    | bl j => cases ry; exact PySem.EqNone.eq_none_bool (fin_bl I q (by simp))
    | int j => obtain ⟨t', rfl⟩ := ry; exact PySem.EqNone.eq_none_int (fin_bl I q (by simp))
    | str j => obtain ⟨t', rfl⟩ := ry; exact PySem.EqNone.eq_none_str (fin_bl I q (by simp))
    | _ => exact absurd (show false = true from hs) Bool.false_ne_true
  | bl i =>
    cases rx
    cases y with
    | non => cases ry; exact PySem.EqNone.eq_bool_none (fin_bl I q (by simp))
    | bl j => cases ry; exact eq_bool (fin_bl I q dec_bl)
    | str j => obtain ⟨t', rfl⟩ := ry; exact PySem.EqMixed.eq_bool_str (fin_bl I q (by simp))
    | _ => exact absurd (show false = true from hs) Bool.false_ne_true
  | int i =>
    obtain ⟨t, rfl⟩ := rx
    cases y with
    | non => cases ry; exact PySem.EqNone.eq_int_none (fin_bl I q (by simp))
    | int j => obtain ⟨t', rfl⟩ := ry; exact eq_int (fin_bl I q dec_int)
    | str j => obtain ⟨t', rfl⟩ := ry; exact PySem.EqMixed.eq_int_str (fin_bl I q (by simp))
    | _ => exact absurd (show false = true from hs) Bool.false_ne_true
  | str i =>
    obtain ⟨t, rfl⟩ := rx
    cases y with
    | non => cases ry; exact PySem.EqNone.eq_str_none (fin_bl I q (by simp))
    | bl j => cases ry; exact PySem.EqMixed.eq_str_bool (fin_bl I q (by simp))
    | int j => obtain ⟨t', rfl⟩ := ry; exact PySem.EqMixed.eq_str_int (fin_bl I q (by simp))
    | str j => obtain ⟨t', rfl⟩ := ry; exact eq_str (fin_bl I q dec_str)
    | _ => exact absurd (show false = true from hs) Bool.false_ne_true
  | byt i =>
    obtain ⟨t, rfl⟩ := rx
    cases y with
    | byt j => obtain ⟨t', rfl⟩ := ry; exact PySem.W.eq_bytes (fin_bl I q dec_byt)
    | _ => exact absurd (show false = true from hs) Bool.false_ne_true
  | _ => cases y <;> exact absurd (show false = true from hs) Bool.false_ne_true
theorem op_ne : OpR X (compareOp .NotEq) rNe := by
  intro pins s σ H x y v u Q I rx ry h
  obtain ⟨hs, q⟩ := h
  cases x with
  | non =>
    cases rx
    cases y with
    | non => cases ry; exact PySem.EqNone.ne_none_none (fin_bl I q (by simp))
    | bl j => cases ry; exact PySem.EqNone.ne_none_bool (fin_bl I q (by simp))
    | int j => obtain ⟨t', rfl⟩ := ry; exact PySem.EqNone.ne_none_int (fin_bl I q (by simp))
    | str j => obtain ⟨t', rfl⟩ := ry; exact PySem.EqNone.ne_none_str (fin_bl I q (by simp))
    | _ => exact absurd (show false = true from hs) Bool.false_ne_true
  | bl i =>
    cases rx
    cases y with
    | non => cases ry; exact PySem.EqNone.ne_bool_none (fin_bl I q (by simp))
    | bl j => cases ry; exact ne_bool (fin_bl I q (congrArg not dec_bl))
    | str j => obtain ⟨t', rfl⟩ := ry; exact PySem.EqMixed.ne_bool_str (fin_bl I q (by simp))
    | _ => exact absurd (show false = true from hs) Bool.false_ne_true
  | int i =>
    obtain ⟨t, rfl⟩ := rx
    cases y with
    | non => cases ry; exact PySem.EqNone.ne_int_none (fin_bl I q (by simp))
    | int j => obtain ⟨t', rfl⟩ := ry; exact ne_int (fin_bl I q (congrArg not dec_int))
    | str j => obtain ⟨t', rfl⟩ := ry; exact PySem.EqMixed.ne_int_str (fin_bl I q (by simp))
    | _ => exact absurd (show false = true from hs) Bool.false_ne_true
  | str i =>
    obtain ⟨t, rfl⟩ := rx
    cases y with
    | non => cases ry; exact PySem.EqNone.ne_str_none (fin_bl I q (by simp))
    | bl j => cases ry; exact PySem.EqMixed.ne_str_bool (fin_bl I q (by simp))
    | int j => obtain ⟨t', rfl⟩ := ry; exact PySem.EqMixed.ne_str_int (fin_bl I q (by simp))
    | str j => obtain ⟨t', rfl⟩ := ry; exact ne_str (fin_bl I q (congrArg not dec_str))
    | _ => exact absurd (show false = true from hs) Bool.false_ne_true
  | byt i =>
    obtain ⟨t, rfl⟩ := rx
    cases y with
    | byt j => obtain ⟨t', rfl⟩ := ry; exact PySem.W.ne_bytes (fin_bl I q (congrArg not dec_byt))
    | _ => exact absurd (show false = true from hs) Bool.false_ne_true
  | _ => cases y <;> exact absurd (show false = true from hs) Bool.false_ne_true
theorem op_lt : OpR X (compareOp .Lt) (rI0 fun i j => .bl (decide (i < j))) := opB0 fun _ _ _ _ _ _ _ q => lt_int q
theorem op_gt : OpR X (compareOp .Gt) (rI0 fun i j => .bl (decide (j < i))) := opB0 fun _ _ _ _ _ _ _ q => gt_int q
theorem op_ge : OpR X (compareOp .GtE) (rI0 fun i j => .bl (decide (j ≤ i))) := opB0 fun _ _ _ _ _ _ _ q => ge_int q
theorem op_isN : OpR X (compareOp .Is) (fun x y H Q => y = .non ∧ Q (.bl (decide (x = .non))) H) := by
  intro pins s σ H x y v u Q I rx ry h
  obtain ⟨rfl, q⟩ := h
  cases ry
  refine is_none_gen (fin_bl I q ?_)
  cases x <;> first
    | (cases rx; rfl)
    | (obtain ⟨t, rfl⟩ := rx; rfl)
theorem nomark (b : Expr) {op : CmpOp} (h : op ≠ .In := by decide) (h2 : op ≠ .NotIn := by decide) : behindInMarks op b = false := by
  have e1 : (op == CmpOp.In) = false := by cases op <;> first | rfl | exact absurd rfl h
  have e2 : (op == CmpOp.NotIn) = false := by cases op <;> first | rfl | exact absurd rfl h2
  cases b <;> simp [behindInMarks, e1, e2]
theorem pe_cmpR {op : CmpOp} {r : R2} (ho : OpR X (compareOp op) r) (ha : PE X a ta) (hb : PE X b tb) (hm : behindInMarks op b = false) : PE X (.Compare a [op] [b] pos) (tOp r ta tb) := by
  intro pins s σ H Q I h
  exact wpAny_Compare1 (binT ha hb I h fun v u s2 x y H2 I2 rx ry q => ho pins s2 σ H2 x y v u Q I2 rx ry q) hm
def tTest (t : TE) : TT := fun σ H Q => t σ H fun x H' => ∃ k, x = .bl k ∧ Q k H'
theorem pt_cmpR {op : CmpOp} {r : R2} (ho : OpR X (compareOp op) r) (ha : PE X a ta) (hb : PE X b tb) (hm : behindInMarks op b = false) : PT X (.Compare a [op] [b] pos) (tTest (tOp r ta tb)) := by
  intro pins s σ H Q I h
  refine wpAny_isTrue_Compare1 (thn (ha pins s σ H _ I h) fun v s1 ⟨x, H1, I1, r1, q1⟩ => thn (hb pins s1 σ H1 _ I1 q1) fun u s2 ⟨y, H2, I2, r2, q2⟩ =>
    thn (ho pins s2 σ H2 x y v u _ I2 r1 r2 q2) fun c s3 ⟨z, H3, I3, r3, k, e, q3⟩ => ?_) hm
  subst e
  cases r3
  exact wpAny_truthy_bool ⟨H3, I3, q3⟩
theorem line63 : (sizeLine : Nat) < 2 ^ 63 := by rw [sizeLine_eq]; decide
theorem op_add_str : OpR X (binaryOp .Add) (fun x y H Q => ∃ i j, x = .str i ∧ y = .str j ∧ i.length + j.length ≤ sizeLine ∧ Q (.str (i ++ j)) H) := by
  intro pins s σ H x y v u Q I rx ry h
  obtain ⟨i, j, rfl, rfl, hz, q⟩ := h
  obtain ⟨t, rfl⟩ := rx
  obtain ⟨t', rfl⟩ := ry
  exact add_str (fun t' tk => ⟨.str (i ++ j), H, I.tok _, ⟨_, rfl⟩, q⟩) hz
theorem vals1 {x : V} {us : List Value} (r : Vals [x] us) : ∃ u, us = [u] ∧ RelV x u := by
  cases r with
  | cons r1 r2 => cases r2; exact ⟨_, rfl, r1⟩
theorem vals2 {x y : V} {us : List Value} (r : Vals [x, y] us) : ∃ u w', us = [u, w'] ∧ RelV x u ∧ RelV y w' := by
  cases r with
  | cons r1 r2 =>
    cases r2 with
    | cons r3 r4 => cases r4; exact ⟨_, _, rfl, r1, r3⟩
theorem call_max2 (hc : X.calm = true) : CallR X (.builtin "max") (fun xs H Q => ∃ i j, xs = [.int i, .int j] ∧ Q (.int (if j > i then j else i)) H) := by
  intro pins s σ H xs us Q I r h
  obtain ⟨i, j, rfl, q⟩ := h
  obtain ⟨u, w', rfl, ⟨t, rfl⟩, ⟨t', rfl⟩⟩ := vals2 r
  refine max_two_ints (I.ok.hd hc) fun h' tk k => ⟨_, H, I.kept k, ?_, q⟩
  by_cases hj : j > i
  · rw [if_pos hj, if_pos hj]; exact ⟨_, rfl⟩
  · rw [if_neg hj, if_neg hj]; exact ⟨_, rfl⟩
theorem call_min2 (hc : X.calm = true) : CallR X (.builtin "min") (fun xs H Q => ∃ i j, xs = [.int i, .int j] ∧ Q (.int (if j < i then j else i)) H) := by
  intro pins s σ H xs us Q I r h
  obtain ⟨i, j, rfl, q⟩ := h
  obtain ⟨u, w', rfl, ⟨t, rfl⟩, ⟨t', rfl⟩⟩ := vals2 r
  refine min_two_ints (I.ok.hd hc) fun h' tk k => ⟨_, H, I.kept k, ?_, q⟩
  by_cases hj : j < i
  · rw [if_pos hj, if_pos hj]; exact ⟨_, rfl⟩
  · rw [if_neg hj, if_neg hj]; exact ⟨_, rfl⟩
end
end L2
namespace L2
open PySem PySem.Spec PyProof.Rows
structure ObjM (h : Heap) (x dx C : Addr) (mA : Str → Option Value) : Prop where
  obj : h.get? x = some (PySem.W.instObj C dx)
  ns : h.Ns1 dx mA
  ne : dx ≠ x
theorem lookIn_ns {h : Heap} {dx : Addr} {mA : Str → Option Value} (n : h.Ns1 dx mA) : ∃ od, h.get? dx = some od ∧ ∀ name, PySem.W.lookIn name od = some (mA name) := by
  obtain ⟨o, es, ep, ho, hd, hk, _, hm⟩ := n
  refine ⟨o, ho, fun name => ?_⟩
  have e := hm name
  unfold nsFind findBy at e
  rw [← Array.find?_toList] at e
  unfold PySem.W.lookIn
  rw [hd]
  dsimp only
  split
  · rename_i y q
    rw [q] at e
    exact congrArg some e
  · rename_i q
    rw [q] at e
    have a : es.toList.any (·.refKey) = false := by
      rw [List.any_eq_false]
      intro y hy
      obtain ⟨z, t, hkey⟩ := hk y (Array.mem_toList_iff.mp hy)
      simp [DictEntry.refKey, hkey]
    have a' : ¬ es.toList.any (·.refKey) = true := by rw [a]; exact Bool.false_ne_true
    rw [if_neg a']
    exact congrArg some e
theorem ObjM.look {h : Heap} {x dx C : Addr} {mA : Str → Option Value} (I : ObjM h x dx C mA) : ∃ od, PySem.W.InstAt h x (PySem.W.instObj C dx) C (some od) ∧ ∀ name, PySem.W.lookIn name od = some (mA name) :=
  let ⟨od, ho, hl⟩ := lookIn_ns I.ns
  ⟨od, ⟨I.obj, rfl, rfl, ho⟩, hl⟩
section
variable {prog : Program} {w : World} {A : Around} {E : Value → Shared → Prop} {s : Shared} {K : PySem.W.Frag} {x dx C f : Addr} {mA : Str → Option Value} {name : Str} {v : Value}
end
def putF (f : Str) (v : V) : List (Str × V) → List (Str × V)
  | [] => [(f, v)]
  | (g, x) :: r => if g = f then (g, v) :: r else (g, x) :: putF f v r
theorem RelO.some_of {v : V} {o : Option Value} (r : RelO (some v) o) : ∃ u, o = some u ∧ RelV v u := by
  cases o with
  | none => exact (show False from r).elim
  | some u => exact ⟨u, rfl, r⟩
section
variable {P : Program} {w : World} {H H' : Hp} {h h' : Heap} {a C dx : Addr} {fs fs' : List (Str × V)}
theorem ins_get (hok : HOk P w H h) (e : H a = some (.ins C dx fs)) : ∃ mA, ObjM h a dx C mA ∧ (∀ f, RelO (fs.lookup f) (mA f)) ∧ PySem.Within mA (fs.map (·.1)) ∧ fs.length ≤ 1000 ∧ H dx = some (.own a) := by
  obtain ⟨d, z, ne, ob, mA, n, r, q⟩ := (show ObjOk P w H h a (.ins C dx fs) from hok a _ e)
  exact ⟨mA, ⟨ob, n, ne⟩, r, q, z, d⟩
end
structure Cls (K : PySem.W.Frag) (C : Addr) : Prop where
  pg : PySem.W.plainGet K C Str.empty = true
  hd : PySem.W.hasDictIn K C = true
  po : PySem.W.plainOver K C = true
  sa : PySem.W.findIn K (.ref C) "__setattr__" = some (some (.builtin "object.__setattr__"))
theorem Cls.get {K : PySem.W.Frag} {C : Addr} (c : Cls K C) (f : Str) : PySem.W.plainGet K C f = true := c.pg
section
variable {X : Cx} {pins : List (Addr × Obj)} {σ : St} {H : Hp} {s : Shared} {a C dx : Addr} {fs : List (Str × V)} {f : Str} {v : V} {A : Around} {E : Value → Shared → Prop}
end
section
variable {X : Cx} {o e value : Expr} {f : Str} {pos pos' tpos : Pos} {ta tv : TE}
end
section
variable {X : Cx} {pins : List (Addr × Obj)} {σ : St} {H : Hp} {s : Shared} {A : Around} {E : Value → Shared → Prop} {Q : Value → Shared → Prop} {c : Value} {b : Bool}
inductive TyOf (K : PySem.W.Frag) (H : Hp) : V → Value → Prop where
  | non : TyOf K H .non (.type "NoneType")
  | bl (x : Bool) : TyOf K H (.bl x) (.type "bool")
  | int (i : Int) : TyOf K H (.int i) (.type "int")
  | str (x : Str) : TyOf K H (.str x) (.type "str")
  | flt (x : UInt64) : TyOf K H (.flt x) (.type "float")
  | lst {a : Addr} {xs : List V} (e : H a = some (.lst xs)) : TyOf K H (.ref a) (.type "list")
  | frz {a : Addr} {o : Obj} {xs : List V} (e : H a = some (.frz o (.lst xs))) : TyOf K H (.ref a) (.type "list")
  | tup {a : Addr} {xs : List V} (e : H a = some (.tup xs)) : TyOf K H (.ref a) (.type "tuple")
  | dK {a : Addr} {kvs : List (Key × V)} (e : H a = some (.dK kvs)) : TyOf K H (.ref a) (.type "dict")
  | dT {a : Addr} {kvs : List (List Key × V)} (e : H a = some (.dT kvs)) : TyOf K H (.ref a) (.type "dict")
  | ins {a C dx : Addr} {fs : List (Str × V)} (e : H a = some (.ins C dx fs)) (cl : Cls K C) (ha : PySem.W.findIn K (.ref C) "__class__" = some (some (.builtin "object.__class__")))
      (hn : PySem.W.specialIn K (.builtin "object.__class__") "__get__" = some (some (.builtin "getset_descriptor.__get__"))) (htk : PySem.W.takesIn K (.builtin "object.__class__") = some true)
      (hm : PySem.W.mroIn K C (.type "object") = some true) : TyOf K H (.ref a) (.ref C)
theorem isinst_ok {x : V} {u t : Value} (I : Inv X pins σ H s) (rx : RelV x u) (ty : TyOf X.K H x t) (e : PySem.W.kitOne X.K t c = some b) (h : ∀ tk, Q (.bool b) { s with toks := tk }) :
    wpAny (model X.prog X.w) A (call (.builtin "isinstance") [u, c]) Q E s := by
  cases ty with
  | non => cases (show u = Value.none from rx); exact PySem.W.kia_one PySem.W.kitx_none I.kIn True.intro e (fun z => nomatch z) h
  | bl y => cases (show u = Value.bool y from rx); exact PySem.W.kia_one PySem.W.kitx_bool I.kIn True.intro e (fun z => nomatch z) h
  | int i => obtain ⟨t, q⟩ := (show ∃ t, u = Value.int i t from rx); cases q; exact PySem.W.kia_one PySem.W.kitx_int I.kIn True.intro e (fun z => nomatch z) h
  | str y => obtain ⟨t, q⟩ := (show ∃ t, u = Value.str y t from rx); cases q; exact PySem.W.kia_one PySem.W.kitx_str I.kIn True.intro e (fun z => nomatch z) h
  | flt y => obtain ⟨t, q⟩ := (show ∃ t, u = Value.float y t from rx); cases q; exact PySem.W.kia_one PySem.W.kitx_float I.kIn True.intro e (fun z => nomatch z) h
  | @lst a xs ea =>
    cases (show u = Value.ref a from rx)
    obtain ⟨_, _, n, _, h1⟩ := (show ObjOk X.prog X.w H s.heap a (.lst xs) from I.hok a _ ea)
    exact PySem.W.kia_one PySem.W.kitx_list I.kIn ⟨_, h1, rfl⟩ e (fun z => nomatch z) h
  | @frz a ob xs ea =>
    cases (show u = Value.ref a from rx)
    obtain ⟨_, _, _, n, _, h1⟩ := (show ObjOk X.prog X.w H s.heap a (.frz ob (.lst xs)) from I.hok a _ ea)
    exact PySem.W.kia_one PySem.W.kitx_list I.kIn ⟨_, h1, rfl⟩ e (fun z => nomatch z) h
  | @tup a xs ea =>
    cases (show u = Value.ref a from rx)
    obtain ⟨_, _, _, p⟩ := (show ObjOk X.prog X.w H s.heap a (.tup xs) from I.hok a _ ea)
    obtain ⟨o, h1, h2, _⟩ := p
    exact PySem.W.kia_one PySem.W.kitx_tuple I.kIn ⟨o, h1, h2⟩ e (fun z => nomatch z) h
  | @dK a kvs ea =>
    cases (show u = Value.ref a from rx)
    obtain ⟨_, _, vs, _, p⟩ := (show ObjOk X.prog X.w H s.heap a (.dK kvs) from I.hok a _ ea)
    obtain ⟨o, es, ep, h1, h2, _⟩ := p
    exact PySem.W.kia_one PySem.W.kitx_dict I.kIn ⟨o, h1, h2.1⟩ e (fun z => nomatch z) h
  | @dT a kvs ea =>
    cases (show u = Value.ref a from rx)
    obtain ⟨_, _, xs, _, o, es, ep, h1, h2, _⟩ := (show ObjOk X.prog X.w H s.heap a (.dT kvs) from I.hok a _ ea)
    exact PySem.W.kia_one PySem.W.kitx_dict I.kIn ⟨o, h1, h2.1⟩ e (fun z => nomatch z) h
  | @ins a C dx fs ea cl ha hn htk hm =>
    cases (show u = Value.ref a from rx)
    obtain ⟨mA, O, _⟩ := ins_get I.hok ea
    obtain ⟨od, J, _⟩ := O.look
    exact PySem.W.kia_one (PySem.W.kitx_own (cl.get _) cl.hd ha hn htk hm) I.kIn J e (fun z => nomatch z) h
end
end L2
namespace L2
open PySem PySem.Spec PyProof.Rows
structure Room (k : Nat) (A : Around) : Prop where
  hd : A.handled = none
  dp : A.depth + 3 * k + 5 < recursionLimit
  un : A.units + 16 * k + 200 < cLine
theorem Room.mono {j k : Nat} {A : Around} (r : Room k A) (h : j ≤ k) : Room j A := ⟨r.hd, by have := r.dp; omega, by have := r.un; omega⟩
theorem Room.deeper {k : Nat} {A : Around} (r : Room (k + 1) A) (env : Env) : Room k (A.deeper env) :=
  ⟨r.hd, by have := r.dp; show A.depth + 1 + 3 * k + 5 < _; omega, by have := r.un; show A.units + 3 + 16 * k + 200 < _; omega⟩
theorem Room.depth {k : Nat} {A : Around} (r : Room k A) : A.depth < recursionLimit := by have := r.dp; omega
theorem Room.units {k : Nat} {A : Around} (r : Room k A) : A.units + 64 < cLine := by have := r.un; omega
def tNil : TA := fun _ H Q => Q [] H
def tCons (ta : TE) (tr : TA) : TA := fun σ H Q => ta σ H fun x H1 => tr σ H1 fun xs H2 => Q (x :: xs) H2
section
variable {X : Cx} {e : Expr} {es : List Expr} {te : TE} {t : TA} {pos : Pos}
theorem pa_nil : PA X [] tNil := fun _ _ _ _ H Q I h => Calls.spliced_nil ⟨[], H, I, .nil, h⟩
theorem pa_cons (ha : PE X e te) (hr : PA X es t) (hs : starEach (e :: es) X.env = (false, eval e X.env) :: starEach es X.env := by rfl) : PA X (e :: es) (tCons te t) := by
  intro pos pins s σ H Q I h
  rw [hs]
  show wpAny _ _ (spliced ((false, eval e X.env) :: backTo pos (starEach es X.env))) _ _ s
  refine Calls.spliced_cons (thn (ha pins s σ H _ I h) fun u s1 ⟨x, H1, I1, r1, q1⟩ => ?_)
  exact thn (hr pos pins s1 σ H1 _ I1 q1) fun us s2 ⟨xs, H2, I2, r2, q2⟩ => ⟨x :: xs, H2, I2, .cons r1 r2, q2⟩
def tTup (t : TA) : TE := fun σ H Q => t σ H fun xs H1 => xs.length ≤ sizeLine ∧ ∀ p, H1 p = none → Q (.ref p) (upd H1 p (.tup xs))
def tLst (t : TA) : TE := fun σ H Q => t σ H fun xs H1 => xs.length ≤ sizeLine ∧ ∀ p, H1 p = none → Q (.ref p) (upd H1 p (.lst xs))
theorem pe_tup {x1} (h : PA X es t) : PE X (.Tuple es x1 pos) (tTup t) := by
  intro pins s σ H Q I hq
  refine wpAny_Tuple_spliced (thn (h pos pins s σ H _ I hq) fun us s1 ⟨xs, H1, I1, r, z, q⟩ => ⟨by rw [← r.length]; exact z, ?_⟩)
  have hf : H1 s1.heap.objs.size = none := I1.hok.fresh (Nat.le_refl _)
  refine ⟨.ref s1.heap.objs.size, upd H1 s1.heap.objs.size (.tup xs), I1.laid (t' := s1.toks) (fun b u e => Heap.get?_push_of_some _ e) (Nat.le_refl _) ?_, rfl, q _ hf⟩
  exact ⟨z, us, r, ⟨_, Heap.get?_push_size _ rfl, rfl, _, rfl⟩⟩
theorem pe_lst (h : PA X es t) : PE X (.List es pos) (tLst t) := by
  intro pins s σ H Q I hq
  refine wpAny_List_spliced (thn (h pos pins s σ H _ I hq) fun us s1 ⟨xs, H1, I1, r, z, q⟩ => ⟨by rw [← r.length]; exact z, ?_⟩)
  have hf : H1 s1.heap.objs.size = none := I1.hok.fresh (Nat.le_refl _)
  refine ⟨.ref s1.heap.objs.size, upd H1 s1.heap.objs.size (.lst xs), I1.laid (t' := s1.toks) (fun b u e => Heap.get?_push_of_some _ e) (Nat.le_refl _) ?_, rfl, q _ hf⟩
  exact ⟨z, us, 0, r, Heap.get?_push_size _ rfl⟩
end
abbrev Sp := List V → Hp → VK → XK → Prop
abbrev CXT := List Env → Hp → Shared → XK → Value → Shared → Prop
structure Env0 (P : Program) (w : World) (K : PySem.W.Frag) (mg : Str → Option Value) (base : Heap) (A : Around) (outer : List Env) (s : Shared) (H : Hp) : Prop where
  frames : A.frames = some outer
  mod : Mod K mg base
  bs : ∀ b o, base.get? b = some o → s.heap.get? b = some o ∧ H b = none
  bsz : base.objs.size ≤ s.heap.objs.size
  funs : s.heap.FunFrames base outer
  frf : ∀ b ∈ frs outer, H b = none
  hok : HOk P w H s.heap
  bare : AllBare s.gens
def CE (outer : List Env) (P : Program) (w : World) (H : Hp) (s : Shared) (Q : VK) (u : Value) (s' : Shared) : Prop :=
  ∃ v H', s'.os = s.os ∧ AllBare s'.gens ∧ Un (frs outer) [] H H' s.heap s'.heap ∧ HOk P w H' s'.heap ∧ RelV v u ∧ Q v H'
def CR (CX : CXT) (outer : List Env) (P : Program) (w : World) (H : Hp) (s : Shared) (Q : VK) (E : XK) (r : Result) (s' : Shared) : Prop :=
  match r with
  | .ok (.ret u) => CE outer P w H s Q u s'
  | .ok _ => False
  | .error e => CX outer H s E e s'
structure FnOk (P : Program) (w : World) (K : PySem.W.Frag) (mg : Str → Option Value) (base : Heap) (CX : CXT) (k : Nat) (f : Addr) (fd : FuncData) (ps : List Str) (sp : Sp) : Prop where
  len : ∀ vs H Q E, sp vs H Q E → vs.length = ps.length
  run : ∀ (A : Around) (outer : List Env) (s : Shared) (H : Hp) (args : Args) (us : List Value) (vs : List V) (Q : VK) (E : XK), Room k A → Env0 P w K mg base A outer s H → BindsTo s fd args (ps.zip us) → Vals vs us → sp vs H Q E →
    codeAny (model P w) A (.call (.ref f) args) (CR CX outer P w H s Q E) s
section
variable {X : Cx} {pins : List (Addr × Obj)} {σ : St} {H : Hp} {s s' : Shared}
theorem Inv.env0 (I : Inv X pins σ H s) : Env0 X.prog X.w X.K X.mg X.base X.A X.stack s H :=
  ⟨I.ok.frames, I.ok.mod, I.bs, Nat.le_trans I.ok.bsz I.sz, I.stack, I.stkFree, I.hok, I.bare⟩
theorem Inv.after {Q : VK} {u : Value} (I : Inv X pins σ H s) (h : CE X.stack X.prog X.w H s Q u s') : EP X pins σ Q u s' := by
  obtain ⟨v, H', os, bare, un, hok, r, q⟩ := h
  obtain ⟨hh, g, d, t, os'⟩ := s'
  obtain rfl : os' = s.os := os
  exact ⟨v, H', I.call (h' := hh) (g' := g) (d' := d) (t' := t) (ch := []) un hok bare (fun b z => absurd z (by simp)), r, q⟩
end
def Binds (K : PySem.W.Frag) (fd : FuncData) (ps : List Str) (ds : List Value) : Prop :=
  ∀ (s : Shared) (us : List Value), K.In s.heap → (us ++ ds).length = ps.length → BindsTo s fd ⟨us, []⟩ (ps.zip (us ++ ds))
theorem Binds.all {K : PySem.W.Frag} {fd : FuncData} {ps : List Str} (h : ∀ us : List Value, us.length = ps.length → bindArgs fd ⟨us, []⟩ = pure (ps.zip us)) : Binds K fd ps [] := fun s us _ hl => by
  rw [List.append_nil] at hl ⊢
  exact .of_eq (h us hl)
def Passes (CX : CXT) (X : Cx) (E : XK) : Prop := ∀ (pins : List (Addr × Obj)) (σ : St) (H : Hp) (s : Shared) (e : Value) (s' : Shared), Inv X pins σ H s → CX X.stack H s E e s' → X.xe e s'
section
variable {X : Cx} {CX : CXT} {k : Nat} {f C : Addr} {fd : FuncData} {ps : List Str} {sp : Sp} {dvs : List V} {ds : List Value} {E : XK} {x m : Str} {p pos apos : Pos} {e o : Expr} {es : List Expr} {ta : TE} {t : TA}
theorem run_fn {pins : List (Addr × Obj)} {σ : St} {H : Hp} {s : Shared} {Q : VK} {us : List Value} {vs : List V} (F : FnOk X.prog X.w X.K X.mg X.base CX k f fd ps sp) (hr : Room k X.A) (hb : Binds X.K fd ps ds) (hd : Vals dvs ds) (hx : Passes CX X E)
    (I : Inv X pins σ H s) (r : Vals vs us) (h : sp (vs ++ dvs) H Q E) : wpAny (model X.prog X.w) X.A (call (.ref f) us) (EP X pins σ Q) X.xe s := by
  have r2 : Vals (vs ++ dvs) (us ++ ds) := r.append hd
  have hl : (us ++ ds).length = ps.length := by rw [← r2.length]; exact F.len _ _ _ _ h
  refine wpAny_call (codeAny_mono (F.run X.A X.stack s H ⟨us, []⟩ (us ++ ds) (vs ++ dvs) Q E hr I.env0 (hb s us I.kIn hl) r2 h) fun r s' hq => ?_)
  cases r with
  | error e => exact hx pins σ H s e s' I hq
  | ok fl =>
    cases fl with
    | ret u => exact I.after hq
    | next => exact False.elim hq
    | brk => exact False.elim hq
    | cont => exact False.elim hq
structure Mk (K : PySem.W.Frag) (C f : Addr) : Prop where
  makes : PySem.W.makesIn K C = true
  init : PySem.W.findIn K (.ref C) "__init__" = some (some (.ref f))
  fn : PySem.W.isFn K (.ref f) = true
  kp : PySem.W.keepIn K (.ref C) = true
end
section
variable {X : Cx} {CX : CXT} {k : Nat} {f C : Addr} {fd : FuncData} {ps ks : List Str} {sp : Sp} {E : XK} {x m : Str} {p pos apos kpos : Pos} {e o : Expr} {es : List Expr} {kws : List Keyword} {te ta : TE} {t tk : TA} {nm : Option Str}
variable {g : List Value → List Value → List Value} {gV : List V → List V → List V}
end
structure FnScope (N P : List Str) (sc : Scope) : Prop where
  kind : sc.kind = .function
  co : sc.isCoroutine = false
  gen : sc.isGenerator = false
  nd : N.Nodup
  pre : N.take P.length = P
  par : ∀ x ∈ P, sc.names.lookup x = some .local ∨ sc.names.lookup x = some .cell
  nofree : ∀ y ∈ sc.names, y.2 ≠ .free
theorem bindL_out {kindOf : Str → Option NameKind} {x : Str} : ∀ {binds : List (Str × Value)} {m : Str → Option Value}, (∀ v, (x, v) ∉ binds) → bindL kindOf binds m x = m x
  | [], _, _ => rfl
  | (n, v) :: r, m, h => by
    unfold bindL
    rw [bindL_out fun w hw => h w (List.mem_cons_of_mem _ hw)]
    split
    · have : x ≠ n := by rintro rfl; exact h v List.mem_cons_self
      simp [this]
    · rfl
theorem bindC_out {kindOf : Str → Option NameKind} {x : Str} : ∀ {binds : List (Str × Value)} {m : Str → Option Value}, (∀ v, (x, v) ∉ binds) → bindC kindOf binds m x = m x
  | [], _, _ => rfl
  | (n, v) :: r, m, h => by
    unfold bindC
    rw [bindC_out fun w hw => h w (List.mem_cons_of_mem _ hw)]
    split
    · rfl
    · have : x ≠ n := by rintro rfl; exact h v List.mem_cons_self
      simp [this]
theorem bindL_get {kindOf : Str → Option NameKind} {x : Str} {v : Value} : ∀ {P : List Str} {vs : List Value} {i : Nat} {m : Str → Option Value}, P.Nodup → P[i]? = some x → vs[i]? = some v → kindOf x = some .local →
    bindL kindOf (P.zip vs) m x = some v
  | [], _, _, _, _, h, _, _ => by simp at h
  | _ :: _, [], _, _, _, _, h, _ => by simp at h
  | p :: P, w :: vs, 0, m, nd, h1, h2, hk => by
    simp at h1 h2; subst h1; subst h2
    show bindL kindOf ((p, w) :: P.zip vs) m p = _
    unfold bindL
    rw [bindL_out fun v hv => (List.nodup_cons.mp nd).1 (List.of_mem_zip hv).1, if_pos hk]
    simp
  | p :: P, w :: vs, i + 1, m, nd, h1, h2, hk => by
    show bindL kindOf ((p, w) :: P.zip vs) m x = _
    unfold bindL
    exact bindL_get (i := i) (List.nodup_cons.mp nd).2 (by simpa using h1) (by simpa using h2) hk
theorem bindC_get {kindOf : Str → Option NameKind} {x : Str} {v : Value} : ∀ {P : List Str} {vs : List Value} {i : Nat} {m : Str → Option Value}, P.Nodup → P[i]? = some x → vs[i]? = some v → kindOf x ≠ some .local →
    bindC kindOf (P.zip vs) m x = some v
  | [], _, _, _, _, h, _, _ => by simp at h
  | _ :: _, [], _, _, _, _, h, _ => by simp at h
  | p :: P, w :: vs, 0, m, nd, h1, h2, hk => by
    simp at h1 h2; subst h1; subst h2
    show bindC kindOf ((p, w) :: P.zip vs) m p = _
    unfold bindC
    rw [bindC_out fun v hv => (List.nodup_cons.mp nd).1 (List.of_mem_zip hv).1, if_neg hk]
    simp
  | p :: P, w :: vs, i + 1, m, nd, h1, h2, hk => by
    show bindC kindOf ((p, w) :: P.zip vs) m x = _
    unfold bindC
    exact bindC_get (i := i) (List.nodup_cons.mp nd).2 (by simpa using h1) (by simpa using h2) hk
def start (N : List Str) (vs : List V) : St := vs.map some ++ List.replicate (N.length - vs.length) none
def cxOf (CX : CXT) (P : Program) (w : World) (K : PySem.W.Frag) (mg : Str → Option Value) (base : Heap) (N : List Str) (qual : Str) (scope : Scope) (f : Addr) (cd : Value) (A : Around) (outer : List Env) (s : Shared) (H : Hp) (E : XK) : Cx where
  prog := P
  w := w
  K := K
  mg := mg
  base := base
  A := A.deeper (envOfC qual scope s.heap.objs.size f cd)
  N := N
  s₀ := s
  H₀ := H
  env := envOfC qual scope s.heap.objs.size f cd
  outer := outer
  stack := envOfC qual scope s.heap.objs.size f cd :: outer
  ex := []
  calm := true
  fn := fun _ => true
  pn := []
  xe := fun e s' => wpAny (model P w) (A.deeper (envOfC qual scope s.heap.objs.size f cd)) (leaving (envOfC qual scope s.heap.objs.size f cd) e) (fun _ s'' => CX outer H s E e s'') (fun e' s'' => CX outer H s E e' s'') s'
theorem cell_has {sc : Scope} {n : Nat} {x : Str} (h : sc.names.lookup x = some .cell) : ∃ c, (cellsFrom n sc.names []).lookup x = some c := by
  have q := PySem.W.cellsFrom_some sc.names n [] (.inl h)
  exact Option.isSome_iff_exists.mp q
theorem inv_start {CX : CXT} {P : Program} {w : World} {K : PySem.W.Frag} {mg : Str → Option Value} {base : Heap} {N ps : List Str} {qual : Str} {scope : Scope} {f : Addr} {cd : Value} {A : Around} {outer : List Env} {s s1 : Shared} {H : Hp} {E : XK} {us : List Value} {vs : List V}
    (S : FnScope N ps scope) (hd : A.handled = none) (e0 : Env0 P w K mg base A outer s H) (hl : vs.length = ps.length) (r : Vals vs us)
    (x : InCallC s s.heap.objs.size (bindL (envOfC qual scope s.heap.objs.size f cd).kindOf (ps.zip us) fun _ => none) (cellsFrom (s.heap.objs.size + 1) scope.names []) (bindC (envOfC qual scope s.heap.objs.size f cd).kindOf (ps.zip us) fun _ => none) s1) :
    Inv (cxOf CX P w K mg base N qual scope f cd A outer s H E) [] (start N vs) H s1 := by
  have hpl : ps.length ≤ N.length := by have := congrArg List.length S.pre; rw [List.length_take] at this; omega
  obtain ⟨h1, tk, rfl, hk⟩ := x.done
  have noA : ∀ b : Addr, b ∉ (cxOf CX P w K mg base N qual scope f cd A outer s H E).ex := fun b z => absurd (show b ∈ ([] : List Addr) from z) (by simp)
  refine ⟨⟨e0.mod, S.kind, rfl, rfl, Nat.le_refl _, fun y z c h1 h2 => ?_, fun y hy => ?_, fun y c _ h => ?_, fun _ => hd, Around.frames_deeper e0.frames, .inr ⟨rfl, rfl⟩, fun b z => absurd z (noA b), e0.bs, e0.bsz, fun b _ _ => noA b, fun b z => absurd z (noA b), e0.funs, e0.frf⟩,
    rfl, e0.bare, Un.kept hk, ⟨_, x.toInCall.ns, fun i y v h1 h2 h3 => ?_⟩, fun y c h => ⟨_, x.cell y c h⟩, e0.hok.fresh (Nat.le_refl _), fun y c h => ?_, fun p hp => absurd (show p ∈ ([] : List (Addr × Obj)) from hp) (by simp), e0.hok.kept hk, ?_⟩
  · exact name_of_addr x.apart (PySem.mem_of_lookup h1) (PySem.mem_of_lookup h2)
  · have hy : scope.names.lookup y = some .cell ∨ scope.names.lookup y = some .free := hy
    rcases hy with hy | hy
    · exact cell_has hy
    · exact absurd rfl (S.nofree _ (PySem.mem_of_lookup hy))
  · exact Nat.le_of_lt (x.above y c (PySem.mem_of_lookup h))
  · have hi : i < vs.length := by
      unfold start at h2
      by_cases hi : i < vs.length
      · exact hi
      · rw [List.getElem?_append_right (by simpa using hi)] at h2
        rw [List.getElem?_replicate] at h2
        split at h2 <;> cases h2
    have ha : vs[i]? = some v := by
      unfold start at h2
      rw [List.getElem?_append_left (by simpa using hi), List.getElem?_map] at h2
      cases e : vs[i]? with
      | none => rw [e] at h2; cases h2
      | some a => rw [e] at h2; cases h2; rfl
    obtain ⟨u, hu, rv⟩ := r.get ha
    have hp : ps[i]? = some y := by
      rw [← S.pre, List.getElem?_take_of_lt (by omega)]; exact h1
    have ndP : ps.Nodup := by rw [← S.pre]; exact S.nd.sublist (List.take_sublist _ _)
    refine ⟨u, rv, ?_⟩
    rcases S.par y (List.mem_of_getElem? hp) with k | k
    · exact .inl ⟨k, bindL_get ndP hp hu k⟩
    · obtain ⟨c, e⟩ := cell_has (n := s.heap.objs.size + 1) k
      refine .inr ⟨.inl k, c, e, ?_⟩
      have q := x.cell y c e
      rw [bindC_get ndP hp hu (by show scope.names.lookup y ≠ _; rw [k]; decide)] at q
      exact q
  · exact e0.hok.fresh (Nat.le_of_lt (x.above y c (PySem.mem_of_lookup h)))
  · unfold start
    show _ = N.length
    rw [List.length_append, List.length_map, List.length_replicate]
    omega
theorem fn_of {CX : CXT} {P : Program} {w : World} {K : PySem.W.Frag} {mg : Str → Option Value} {base : Heap} {k : Nat} {f : Addr} {name qual : Str} {params : Arguments} {body : List Stmt} {scope : Scope} {dV kV doc pm cdv ct oc : Value} {an od : Option Addr}
    {osl : Array (Option Value)} {N ps : List Str} {sp : Sp} (lk : K.lookup f = some ⟨oc, od, .func (PySem.W.fnOf name qual params body scope dV kV doc pm an cdv ct), osl⟩) (hcd : PySem.W.codeIn K cdv qual = true) (S : FnScope N ps scope)
    (len : ∀ vs H Q E, sp vs H Q E → vs.length = ps.length)
    (hbody : ∀ (A : Around) (outer : List Env) (s : Shared) (H : Hp) (vs : List V) (Q : VK) (E : XK), Room k (A.deeper (envOfC qual scope s.heap.objs.size f cdv)) → sp vs H Q E →
      ∃ t, PSs (cxOf CX P w K mg base N qual scope f cdv A outer s H E) body t ∧ t { nx := fun _ H' => Q .non H', rt := Q } (start N vs) H) :
    FnOk P w K mg base CX (k + 1) f (PySem.W.fnOf name qual params body scope dV kV doc pm an cdv ct) ps sp := by
  refine ⟨len, fun A outer s H args us vs Q E hr e0 hb r hsp => ?_⟩
  have hl := len _ _ _ _ hsp
  have KX : K.In s.heap := e0.mod.kin.keeps fun b o e => (e0.bs b o e).1
  have lim : s.heap.NoLimit := e0.mod.nolimit.keeps fun b o e => (e0.bs b o e).1
  have hkind : ∀ y ∈ ps.zip us, scope.names.lookup y.1 = some .local ∨ (scope.names.lookup y.1 = some .cell ∧ ((cellsFrom (s.heap.objs.size + 1) scope.names []).lookup y.1).isSome = true) := fun ⟨n, v⟩ hy => by
    rcases S.par n (List.of_mem_zip hy).1 with q | q
    · exact .inl q
    · exact .inr ⟨q, PySem.W.cellsFrom_some _ _ _ (.inl q)⟩
  refine codeAny_call_function hr.depth (KX _ _ lk) rfl S.co S.gen rfl (PySem.W.codeRec_of KX hcd) (hb _ _ _ _ ?_)
  refine wpAny_newFunctionEnv_cells S.kind hkind fun env he s1 x => ?_
  subst he
  refine ⟨lim.keeps x.toInCall.keep, codeAny_func ?_⟩
  obtain ⟨t, ht, hq⟩ := hbody A outer s H vs Q E (hr.deeper _) hsp
  have I : Inv (cxOf CX P w K mg base N qual scope f cdv A outer s H E) [] (start N vs) H s1 := inv_start S hr.hd e0 hl r x
  refine wpAny_mono (ht [] s1 (start N vs) H _ I hq) (fun fl s' hs => ?_) fun e s' hs => hs
  have fin : ∀ {σ' : St} {H' : Hp} {v : V} {u : Value}, Inv (cxOf CX P w K mg base N qual scope f cdv A outer s H E) [] σ' H' s' → RelV v u → Q v H' → CE outer P w H s Q u s' :=
    fun {σ' H' v u} J rv q => ⟨v, H', J.os, J.bare, J.base, J.hok, rv, q⟩
  cases fl with
  | ret u =>
    obtain ⟨v, σ', H', J, rv, q⟩ := hs
    exact fin J rv q
  | next =>
    obtain ⟨σ', H', J, q⟩ := hs
    exact fin (v := V.non) (u := Value.none) J rfl q
  | brk =>
    obtain ⟨_, _, _, q⟩ := hs
    exact False.elim q
  | cont =>
    obtain ⟨_, _, _, q⟩ := hs
    exact False.elim q
end L2
namespace L2
open PySem PySem.Spec PyProof.Rows
section
variable {X : Cx} {x : Str} {p pos : Pos} {e : Expr} {es : List Expr} {t : TA} {id T : String} {r : List V → Hp → VK → Prop}
def tCB (r : List V → Hp → VK → Prop) (t : TA) : TE := fun σ H Q => t σ H fun vs H1 => r vs H1 Q
theorem pe_callB (hc : CallR X (.builtin id) r) (hg : Gl X x) (hm : X.mg x = none) (hv : bootBuiltins x = some (.builtin id)) (ha : PA X (e :: es) t) (hn : x ≠ "__name__" := by decide) (hdb : (x == ("__debug__" : Str)) = false := by decide)
    (he : starEach (e :: es) X.env = (false, eval e X.env) :: starEach es X.env := by rfl) (hpl : (backTo pos (starEach es X.env)).any (·.1) = false := by rfl) : PE X (.Call (.Name x p) (e :: es) [] pos) (tCB r t) := by
  intro pins s σ H Q I h
  refine wpAny_Call_Name_kw (ld_blt I hg hm hv ?_ hn hdb)
  exact PyProof.Rows.callWith_builtin1 (thn (ha pos pins s σ H _ I h) fun us s1 ⟨vs, H1, I1, r1, q1⟩ => hc pins s1 σ H1 vs us Q I1 r1 q1) he hpl
theorem pe_callTy (hc : CallR X (.type T) r) (hg : Gl X x) (hm : X.mg x = none) (hv : bootBuiltins x = some (.type T)) (ha : PA X (e :: es) t) (hn : x ≠ "__name__" := by decide) (hdb : (x == ("__debug__" : Str)) = false := by decide)
    (he : starEach (e :: es) X.env = (false, eval e X.env) :: starEach es X.env := by rfl) (hpl : (backTo pos (starEach es X.env)).any (·.1) = false := by rfl) : PE X (.Call (.Name x p) (e :: es) [] pos) (tCB r t) := by
  intro pins s σ H Q I h
  refine wpAny_Call_Name_kw (ld_blt I hg hm hv ?_ hn hdb)
  exact PyProof.Rows.callWith_type1 (thn (ha pos pins s σ H _ I h) fun us s1 ⟨vs, H1, I1, r1, q1⟩ => hc pins s1 σ H1 vs us Q I1 r1 q1) he hpl
end
end L2
namespace HT
open PySem PyProof.Rows
def lexLt : List Int → List Int → Bool
  | [], [] => false
  | [], _ :: _ => true
  | _ :: _, [] => false
  | x :: xs, y :: ys => if x = y then lexLt xs ys else decide (x < y)
section
open PySem.SeqAt
open PySem.AutoSeq1 (wpAny_loadPart')
open PySem.MeetsSeq PySem.MeetsSeq2 PySem.MeetsSeq3
end
section
variable {prog : Program} {w : World} {A : Around} {E : Value → Shared → Prop} {s : Shared}
def sIx (n d : Nat) : Option Int → Nat
  | none => d
  | some v => if v < 0 then (v + (n : Int)).toNat else min v.toNat n
theorem sIx_none (n d : Nat) : sIx n d none = d := rfl
theorem sIx_nat (n d k : Nat) : sIx n d (some (k : Int)) = min k n := by
  show (if (k : Int) < 0 then ((k : Int) + (n : Int)).toNat else min (k : Int).toNat n) = min k n
  rw [if_neg (by omega), Int.toNat_natCast]
theorem sIx_le (n d : Nat) (hd : d ≤ n) (o : Option Int) : sIx n d o ≤ n := by
  cases o with
  | none => exact hd
  | some v =>
    show (if v < 0 then (v + (n : Int)).toNat else min v.toNat n) ≤ n
    by_cases hv : v < 0
    · rw [if_pos hv]; omega
    · rw [if_neg hv]; exact Nat.min_le_right _ _
end
end HT
namespace L2
open PySem PySem.Spec PyProof.Rows
abbrev TO := St → Hp → (Option Int → Hp → Prop) → Prop
def PO (X : Cx) (e : Option Expr) (t : TO) : Prop :=
  ∀ (pins : List (Addr × Obj)) (s : Shared) (σ : St) (H : Hp) (Q : Option Int → Hp → Prop), Inv X pins σ H s → t σ H Q →
    wpAny (model X.prog X.w) X.A (evalPart e X.env) (fun u s' => ∃ o H', Inv X pins σ H' s' ∧ IsPart u o ∧ Q o H') X.xe s
def tNoPart : TO := fun _ H Q => Q none H
def tPart (t : TE) : TO := fun σ H Q => t σ H fun x H1 => ∃ i, x = .int i ∧ Q (some i) H1
section
variable {X : Cx} {e : Expr} {te : TE} {lo hi : Option Expr} {tl th : TO} {pos p2 : Pos}
theorem po_none : PO X none tNoPart := by
  intro pins s σ H Q I h
  rw [evalPart_none]
  exact wpAny_pure ⟨none, H, I, .none, h⟩
theorem po_some (h : PE X e te) : PO X (some e) (tPart te) := by
  intro pins s σ H Q I hw
  rw [evalPart_some]
  refine thn (h pins s σ H _ I hw) fun u s1 ⟨x, H1, I1, r1, q1⟩ => ?_
  obtain ⟨i, rfl, q⟩ := q1
  obtain ⟨t, rfl⟩ := r1
  exact ⟨some i, H1, I1, .int i t, q⟩
def SlR (X : Cx) (r : V → Option Int → Option Int → Hp → VK → Prop) : Prop :=
  ∀ (pins : List (Addr × Obj)) (s : Shared) (σ : St) (H : Hp) (x : V) (v vl vu : Value) (lo hi : Option Int) (sl : Addr) (Q : VK), Inv X pins σ H s → RelV x v → s.heap.IsSliceOf sl vl vu .none → IsPart vl lo → IsPart vu hi → r x lo hi H Q →
    ∃ T id, typeLookup (.type T) "__getitem__" = pure (some (.builtin id)) ∧ s.TypeIs v T ∧ wpAny (model X.prog X.w) X.A (getItem v (.ref sl)) (EP X pins σ Q) X.xe s
def tSl (r : V → Option Int → Option Int → Hp → VK → Prop) (te : TE) (tl th : TO) : TE := fun σ H Q => te σ H fun x H1 => tl σ H1 fun l H2 => th σ H2 fun u H3 => r x l u H3 Q
theorem pe_slice {r : V → Option Int → Option Int → Hp → VK → Prop} (hr : SlR X r) (he : PE X e te) (hl : PO X lo tl) (hu : PO X hi th) : PE X (.Subscript e (.Slice lo hi none p2) pos) (tSl r te tl th) := by
  intro pins s σ H Q I h
  refine Subscript_ (thn (he pins s σ H _ I h) fun v s1 ⟨x, H1, I1, r1, q1⟩ => ?_)
  refine wpAny_Slice (thn (hl pins s1 σ H1 _ I1 q1) fun vl s2 ⟨l, H2, I2, pl, q2⟩ => thn (hu pins s2 σ H2 _ I2 q2) fun vu s3 ⟨u, H3, I3, pu, q3⟩ => ?_)
  rw [evalPart_none]
  refine wpAny_pure ?_
  have I4 : Inv X pins σ H3 { s3 with heap := s3.heap.push { cls := .type "slice", data := .fields #[vl, vu, .none] } } := I3.kept (t' := s3.toks) fun b ob q => Heap.get?_push_of_some _ q
  obtain ⟨T, id, hT, ht, hg⟩ := hr pins { s3 with heap := s3.heap.push { cls := .type "slice", data := .fields #[vl, vu, .none] } } σ H3 x v vl vu l u s3.heap.objs.size Q I4 r1 (Heap.IsSliceOf.new ..) pl pu q3
  show wpAny (model X.prog X.w) X.A (subscriptTail e (.Slice lo hi none p2) v (.ref s3.heap.objs.size)) (EP X pins σ Q) X.xe { s3 with heap := s3.heap.push { cls := .type "slice", data := .fields #[vl, vu, .none] } }
  exact tail_any (ops := [.ref s3.heap.objs.size, v]) ht hT hg (by with_unfolding_all rfl)
end
end L2
namespace L2
open PySem PySem.Spec PyProof.Rows
def ixN (n : Nat) (i : Int) : Option Nat := if 0 ≤ i then (if i < n then some i.toNat else none) else if -(n : Int) ≤ i then some (i + n).toNat else none
def atI {α : Type} (xs : List α) (i : Int) : Option α := (ixN xs.length i).bind fun j => xs[j]?
theorem ixN_seq {n : Nat} {i : Int} {j : Nat} (h : ixN n i = some j) : seqIndex? i n = some j ∧ j < n ∧ -(n : Int) ≤ i ∧ i < n := by
  unfold ixN at h
  by_cases h0 : 0 ≤ i
  · rw [if_pos h0] at h
    by_cases h1 : i < n
    · rw [if_pos h1] at h
      have e : i.toNat = j := Option.some.inj h
      exact ⟨by rw [seqIndex_of h0 h1, e], by omega, by omega, h1⟩
    · rw [if_neg h1] at h; cases h
  · rw [if_neg h0] at h
    by_cases h1 : -(n : Int) ≤ i
    · rw [if_pos h1] at h
      have e : (i + n).toNat = j := Option.some.inj h
      exact ⟨by rw [seqIndex_neg (by omega) h1, e], by omega, h1, by omega⟩
    · rw [if_neg h1] at h; cases h
theorem atI_get {α : Type} {xs : List α} {i : Int} {v : α} (h : atI xs i = some v) : ∃ j, seqIndex? i xs.length = some j ∧ xs[j]? = some v ∧ j < xs.length ∧ -(xs.length : Int) ≤ i ∧ i < xs.length := by
  unfold atI at h
  cases e : ixN xs.length i with
  | none => rw [e] at h; cases h
  | some j =>
    rw [e] at h
    obtain ⟨h1, h2, h3, h4⟩ := ixN_seq e
    exact ⟨j, h1, h, h2, h3, h4⟩
theorem atI_nat {α : Type} {xs : List α} {j : Nat} {v : α} (h : xs[j]? = some v) : atI xs (j : Int) = some v := by
  have hj : j < xs.length := (List.getElem?_eq_some_iff.mp h).1
  have e : ixN xs.length (j : Int) = some j := by
    unfold ixN
    rw [if_pos (by omega), if_pos (by omega)]; simp
  unfold atI; rw [e]; exact h
def PlainIx (b : Expr) : Prop := ∀ o i, subscripted b false o i = operate [o, i] (getItem o i)
def IxR (X : Cx) (r : R2) : Prop :=
  ∀ (value slice : Expr) (pins : List (Addr × Obj)) (s : Shared) (σ : St) (H : Hp) (x y : V) (v u : Value) (Q : VK), Inv X pins σ H s → RelV x v → RelV y u → r x y H Q →
    subscripted slice false v u = operate [v, u] (getItem v u) → wpAny (model X.prog X.w) X.A (subscriptTail value slice v u) (EP X pins σ Q) X.xe s
def MtR (X : Cx) (id : String) (r : V → List V → Hp → VK → Prop) : Prop :=
  ∀ (pins : List (Addr × Obj)) (s : Shared) (σ : St) (H : Hp) (x : V) (xs : List V) (v : Value) (us : List Value) (Q : VK), Inv X pins σ H s → RelV x v → Vals xs us → r x xs H Q →
    wpAny (model X.prog X.w) X.A (call (.builtin id) (v :: us)) (EP X pins σ Q) X.xe s
section
variable {X : Cx} {a b : Expr} {ta tb : TE} {pos : Pos}
theorem pe_ix {r : R2} (hr : IxR X r) (ha : PE X a ta) (hb : PE X b tb) (hs : PlainIx b) : PE X (.Subscript a b pos) (tOp r ta tb) := by
  intro pins s σ H Q I h
  exact Subscript_ (binT ha hb I h fun v u s2 x y H2 I2 rx ry q => hr a b pins s2 σ H2 x y v u Q I2 rx ry q (hs _ _))
def rIxL (K : PySem.W.Frag) : R2 := fun x y H Q => ∃ p xs i v, x = .ref p ∧ y = .int i ∧ SqL K H p xs ∧ atI xs i = some v ∧ Q v H
def rIxT (K : PySem.W.Frag) : R2 := fun x y H Q => ∃ p xs i v, x = .ref p ∧ y = .int i ∧ SqT K H p xs ∧ atI xs i = some v ∧ Q v H
def rIxS : R2 := fun x y H Q => ∃ z i c, x = .str z ∧ y = .int i ∧ z.length ≤ sizeLine ∧ atI z.cps.toList i = some c ∧ Q (.str ⟨#[c]⟩) H
theorem ix_list : IxR X (rIxL X.K) := by
  intro value slice pins s σ H x y v u Q I rx ry h hs
  obtain ⟨p, xs, i, z, rfl, rfl, hq, he, q⟩ := h
  cases rx
  obtain ⟨t, rfl⟩ := ry
  obtain ⟨its, r, pl, hz⟩ := I.list hq
  obtain ⟨j, h1, h2, h3, h4, h5⟩ := atI_get he
  obtain ⟨w, ew, rw'⟩ := r.get h2
  have hl := r.length
  have hn := line63
  have fin : EP X pins σ Q w s := ⟨z, H, I, rw', q⟩
  by_cases h0 : 0 ≤ i
  · have hj : i.toNat = j := by
      rw [seqIndex_of h0 h5] at h1
      exact Option.some.inj h1
    exact item_listR pl.isList h0 (by omega) (by rw [hj]; simpa using ew) fin hs
  · have hj : (i + (its.toArray.size : Int)).toNat = j := by
      rw [seqIndex_neg (by omega) h4] at h1
      rw [List.size_toArray, ← hl]
      exact Option.some.inj h1
    exact subscriptTail_builtinR (x := w) pl.isList.typeIs slot_list_getitem.lookup
      (wpAny_getItem_list_neg (Q := fun r s' => r = w ∧ EP X pins σ Q r s') pl.isList (by omega) (by rw [List.size_toArray] <;> omega) (by omega) (by rw [hj]; simpa using ew) ⟨rfl, fin⟩) hs
theorem ix_tup : IxR X (rIxT X.K) := by
  intro value slice pins s σ H x y v u Q I rx ry h hs
  obtain ⟨p, xs, i, z, rfl, rfl, hq, he, q⟩ := h
  cases rx
  obtain ⟨t, rfl⟩ := ry
  obtain ⟨its, r, pl, hz⟩ := I.tuple hq
  obtain ⟨j, h1, h2, h3, h4, h5⟩ := atI_get he
  obtain ⟨w, ew, rw'⟩ := r.get h2
  have hl := r.length
  have hn := line63
  have fin : EP X pins σ Q w s := ⟨z, H, I, rw', q⟩
  exact subscriptTail_builtinR (x := w) pl.typeIs slot_tuple_getitem.lookup
    (getItem_tuple (j := j) (Q := fun r s' => r = w ∧ EP X pins σ Q r s') pl (by omega) (by omega) (by rw [List.size_toArray, ← hl]; exact h1) (by simpa using ew) ⟨rfl, fin⟩) hs
theorem ix_str : IxR X rIxS := by
  intro value slice pins s σ H x y v u Q I rx ry h hs
  obtain ⟨z, i, c, rfl, rfl, hz, he, q⟩ := h
  obtain ⟨t, rfl⟩ := rx
  obtain ⟨t', rfl⟩ := ry
  obtain ⟨j, h1, h2, h3, h4, h5⟩ := atI_get he
  have hl : z.cps.toList.length = z.length := by simp [Str.length]
  rw [hl] at h1 h4 h5
  have hn := line63
  exact tail_any (typeIs_str s z t) slot_str_getitem.lookup (getItem_str (c := c) (by
    have e1 : decide (i < -(2 ^ 63 : Int)) = false := decide_eq_false (by omega)
    have e2 : decide (i ≥ 2 ^ 63) = false := decide_eq_false (by omega)
    rw [e1, e2, Bool.or_false]) (by rw [h1]; simpa using h2) ⟨.str ⟨#[c]⟩, H, I.tok _, ⟨_, rfl⟩, q⟩) hs
theorem slice_bounds (lo hi : Option Int) (n : Nat) : (sliceBounds lo hi none n).1 = ((HT.sIx n 0 lo : Nat) : Int) ∧ (sliceBounds lo hi none n).2.1 = ((HT.sIx n n hi : Nat) : Int) ∧ (sliceBounds lo hi none n).2.2 = 1 := by
  refine ⟨?_, ?_, rfl⟩
  · cases lo with
    | none => simp [sliceBounds, HT.sIx]
    | some i =>
      simp only [sliceBounds, HT.sIx, Option.getD_none, show (1 : Int) > 0 by decide, if_true]
      by_cases h : i < 0
      · simp only [h, if_true] <;> omega
      · simp only [h, if_false] <;> omega
  · cases hi with
    | none => simp [sliceBounds, HT.sIx]
    | some i =>
      simp only [sliceBounds, HT.sIx, Option.getD_none, show (1 : Int) > 0 by decide, if_true]
      by_cases h : i < 0
      · simp only [h, if_true] <;> omega
      · simp only [h, if_false] <;> omega
theorem op_notIn_str : OpR X (compareOp .NotIn) (fun x y H Q => ∃ i j, x = .str i ∧ y = .str j ∧ Q (.bl (!(!(Builtin.Str.occurrences j i 0 j.length 1).isEmpty))) H) := by
  intro pins s σ H x y v u Q I rx ry h
  obtain ⟨i, j, rfl, rfl, q⟩ := h
  obtain ⟨t, rfl⟩ := rx
  obtain ⟨t', rfl⟩ := ry
  exact notIn_str ⟨.bl _, H, I, rfl, q⟩
theorem call_len_seq : CallR X (.builtin "len") (fun xs H Q => ∃ p ys, xs = [.ref p] ∧ (SqL X.K H p ys ∨ SqT X.K H p ys) ∧ Q (.int ys.length) H) := by
  intro pins s σ H xs us Q I r h
  obtain ⟨p, ys, rfl, hq, q⟩ := h
  obtain ⟨u, rfl, rx⟩ := vals1 r
  cases rx
  have hn := line63
  rcases hq with hq | hq
  · obtain ⟨its, r', pl, hz⟩ := I.list hq
    have hlen := r'.length
    exact Calls.call_len_list pl.isList (by simp only [List.size_toArray] <;> omega) ⟨.int ys.length, H, I.tok _, ⟨s.toks + 1, by rw [List.size_toArray, hlen]⟩, q⟩
  · obtain ⟨its, r', pl, hz⟩ := I.tuple hq
    have hlen := r'.length
    exact len_tuple pl (by simp only [List.size_toArray] <;> omega) ⟨.int ys.length, H, I.tok _, ⟨s.toks + 1, by rw [List.size_toArray, hlen]⟩, q⟩
theorem call_len_str : CallR X (.builtin "len") (fun xs H Q => ∃ z, xs = [.str z] ∧ z.length ≤ sizeLine ∧ Q (.int z.length) H) := by
  intro pins s σ H xs us Q I r h
  obtain ⟨z, rfl, hz, q⟩ := h
  obtain ⟨u, rfl, t, rfl⟩ := vals1 r
  have hn := line63
  exact len_str (by omega) ⟨.int z.length, H, I.tok _, ⟨_, rfl⟩, q⟩
theorem CallR.or {f : Value} {r r' : List V → Hp → VK → Prop} (h : CallR X f r) (h' : CallR X f r') : CallR X f (fun xs H Q => r xs H Q ∨ r' xs H Q) := by
  intro pins s σ H xs us Q I rs q
  rcases q with q | q
  · exact h pins s σ H xs us Q I rs q
  · exact h' pins s σ H xs us Q I rs q
def tyV (K : PySem.W.Frag) (T : String) (x : V) (H : Hp) : Prop := match x with
  | .str _ => T = "str"
  | .int _ => T = "int"
  | .ref p => (T = "list" ∧ ∃ xs, SqL K H p xs) ∨ (T = "tuple" ∧ ∃ o, K.lookup p = some o ∧ o.cls = .type "tuple" ∧ o.dict = none) ∨
      (T = "dict" ∧ ((∃ kvs, H p = some (.dK kvs)) ∨ ∃ kvs, H p = some (.dT kvs))) ∨ (T = "set" ∧ ∃ S n, H p = some (.set S n))
  | _ => False
theorem tyV_is {pins : List (Addr × Obj)} {σ : St} {H : Hp} {s : Shared} {T : String} {x : V} {v : Value} (I : Inv X pins σ H s) (r : RelV x v) (ty : tyV X.K T x H) :
    s.TypeIs v T ∧ ∀ a, v = .ref a → ∃ ob, s.heap.get? a = some ob ∧ ob.dict = none := by
  cases x with
  | str z =>
    obtain ⟨t, rfl⟩ := r
    cases (show T = "str" from ty)
    exact ⟨typeIs_str s z t, fun _ e => nomatch e⟩
  | int i =>
    obtain ⟨t, rfl⟩ := r
    cases (show T = "int" from ty)
    exact ⟨typeIs_int s i t, fun _ e => nomatch e⟩
  | ref p =>
    cases r
    rcases ty with ⟨rfl, xs, hq⟩ | ⟨rfl, o, hk, hc, hd⟩ | ⟨rfl, hk⟩ | ⟨rfl, S, n, hk⟩
    · obtain ⟨its, _, pl, _⟩ := I.list hq
      refine ⟨pl.isList.typeIs, fun a e => ?_⟩
      cases e
      obtain ⟨o, n, e, c, hd, _⟩ := pl
      exact ⟨o, e, hd⟩
    · refine ⟨⟨o, I.kIn p o hk, hc⟩, fun a e => ?_⟩
      cases e
      exact ⟨o, I.kIn _ o hk, hd⟩
    · have z : ∃ o, s.heap.get? p = some o ∧ o.ExactDict := by
        rcases hk with ⟨kvs, hk⟩ | ⟨kvs, hk⟩
        · obtain ⟨_, _, _, _, o, _, _, e, ex, _⟩ := I.hok p _ hk
          exact ⟨o, e, ex⟩
        · obtain ⟨_, _, _, _, o, _, _, e, ex, _⟩ := I.hok p _ hk
          exact ⟨o, e, ex⟩
      obtain ⟨o, e, ex⟩ := z
      refine ⟨⟨o, e, ex.1⟩, fun a e2 => ?_⟩
      cases e2
      exact ⟨o, e, ex.2.1⟩
    · obtain ⟨o, _, _, _, e, ex, _⟩ := I.hok p _ hk
      refine ⟨⟨o, e, ex.1⟩, fun a e2 => ?_⟩
      cases e2
      exact ⟨o, e, ex.2.1⟩
  | _ => exact False.elim ty
def tBM (K : PySem.W.Frag) (T : String) (r : V → List V → Hp → VK → Prop) (to : TE) (t : TA) : TE := fun σ H Q => to σ H fun x H1 => tyV K T x H1 ∧ t σ H1 fun xs H2 => r x xs H2 Q
variable {o e : Expr} {es : List Expr} {to : TE} {t : TA} {name : Str} {apos cpos : Pos} {T id : String} {r : V → List V → Hp → VK → Prop}
theorem pe_bm (pa : PlainAttrs T) (slot : Slot T name id) (hty : typeOf (.builtin id) = pure (.type "method_descriptor")) (hm : MtR X id r) (ho : PE X o to) (ha : PA X (e :: es) t)
    (hbase : attributeBase o name X.env (eval o X.env) = eval o X.env := by rfl)
    (hfew : ((backTo cpos (starEach (e :: es) X.env)).all (fun x => !x.1) && (backToKw cpos (keywordEach [] X.env)).all (fun x => x.1.isSome)
      && decide ((e :: es).length + ([] : List Keyword).length + (if ([] : List Keyword).isEmpty then 0 else 1) < 30)) = true := by rfl)
    (hline : (apos.endLine == cpos.line) = true := by rfl) (hs : starEach (e :: es) X.env = (false, eval e X.env) :: starEach es X.env := by rfl) (hplain : (backTo cpos (starEach es X.env)).any (·.1) = false := by rfl) :
    PE X (.Call (.Attribute o name apos) (e :: es) [] cpos) (tBM X.K T r to t) := by
  intro pins s σ H Q I h
  refine wpAny_Call_method_late hbase hfew hline rfl (thn (ho pins s σ H _ I h) fun v s1 ⟨x, H1, I1, r1, ty, q1⟩ => ?_)
  obtain ⟨h1, h2⟩ := tyV_is I1 r1 ty
  refine ⟨T, id, pa, slot, hty, h1, h2, ?_⟩
  have hA := ha cpos pins s1 σ H1 _ I1 q1
  rw [hs] at hA ⊢
  refine Calls.callWith_builtin (by show (false || (backTo cpos (starEach es X.env)).any (·.1)) = false; rw [hplain] <;> rfl) (Calls.evalArgs_plain ?_)
  exact thn hA fun us s2 ⟨vs, H2, I2, r2, q2⟩ => hm pins s2 σ H2 x vs v us Q I2 r1 r2 q2
end
end L2
namespace L2
open PySem PySem.Spec PyProof.Rows
def MtM (X : Cx) (id : String) (r : V → List V → Hp → VK → Prop) : Prop :=
  ∀ (pins : List (Addr × Obj)) (s : Shared) (σ : St) (H : Hp) (x : V) (xs : List V) (v : Value) (us : List Value) (Q : VK), Inv X pins σ H s → RelV x v → Vals xs us → r x xs H Q →
    wpAny (model X.prog X.w) X.A (call (.builtin id) (v :: us)) (EP X pins σ Q) X.xe s
theorem Vals.one : ∀ {x : V} {us : List Value}, Vals [x] us → ∃ u, us = [u] ∧ RelV x u
  | _, _, .cons r .nil => ⟨_, rfl, r⟩
section
variable {X : Cx} {pins : List (Addr × Obj)} {σ : St} {H : Hp} {s : Shared} {l b : Addr} {xs ys zs : List V}
theorem Inv.lset {its its' : List Value} {n : Nat} {f : Array Value → Array Value} {t' : Nat} (I : Inv X pins σ H s) (hH : H l = some (.lst xs))
    (e : s.heap.get? l = some { cls := .type "list", data := .seq its.toArray n }) (hf : f its.toArray = its'.toArray) (hv : Vals ys its') (hz : ys.length ≤ sizeLine) :
    Inv X pins σ (upd H l (.lst ys)) { s with heap := s.heap.update l (Obj.mapSeq f), toks := t' } := by
  have q := PySem.IsL.update e f
  rw [hf] at q
  refine I.write (x := l) (e := l) (by rw [hH]; exact trivial) (.inl rfl) (fun b' u hb hu => (Heap.get?_update_other s.heap (Obj.mapSeq f) (Ne.symm hb)).trans hu) ⟨_, q⟩ ?_
  exact ⟨hz, its', _, hv, q⟩
theorem Inv.lnew {its : List Value} {t' : Nat} (I : Inv X pins σ H s) (hv : Vals ys its) (hz : ys.length ≤ sizeLine) :
    Inv X pins σ (upd H s.heap.objs.size (.lst ys)) { s with heap := s.heap.push { cls := .type "list", data := .seq its.toArray }, toks := t' } :=
  I.laid (fun _ _ q => Heap.get?_push_of_some _ q) (Nat.le_refl _) ⟨hz, its, 0, hv, Heap.get?_push_size _ rfl⟩
theorem Inv.fresh (I : Inv X pins σ H s) : H s.heap.objs.size = none := I.hok.fresh (Nat.le_refl _)
theorem Inv.lstM (I : Inv X pins σ H s) (hH : H l = some (.lst xs)) : xs.length ≤ sizeLine ∧ ∃ (its : List Value) (n : Nat), Vals xs its ∧ xs.length = its.length ∧ s.heap.get? l = some { cls := .type "list", data := .seq its.toArray n } := by
  obtain ⟨z, its, n, r, e⟩ := I.hok l _ hH
  exact ⟨z, its, n, r, r.length, e⟩
end
section
variable {X : Cx}
def rAppend : V → List V → Hp → VK → Prop := fun x vs H Q => ∃ l xs y, x = .ref l ∧ vs = [y] ∧ H l = some (.lst xs) ∧ xs.length < sizeLine ∧ Q .non (upd H l (.lst (xs ++ [y])))
theorem mt_append : MtM X "list.append" rAppend := by
  intro pins s σ H x vs v us Q I rx rv h
  obtain ⟨l, xs, y, rfl, rfl, hH, hz, q⟩ := h
  cases rx
  obtain ⟨u, rfl, ru⟩ := rv.one
  obtain ⟨z, its, n, r, hl, e⟩ := I.lstM hH
  refine call_meets F.slot_list_append ⟨_, e, rfl⟩ F.entry_list_append (F.args_list_append_2 _ _) (PySem.list_append l its.toArray n u (by rw [List.size_toArray]; omega)) ⟨e, ?_⟩
  refine ⟨.non, _, I.lset (its' := its ++ [u]) hH e (by simp) (r.append (.cons ru .nil)) ?_, rfl, q⟩
  rw [List.length_append, List.length_singleton]
  omega
def rCat : R2 := fun x y H Q => ∃ l b xs zs, x = .ref l ∧ y = .ref b ∧ H l = some (.lst xs) ∧ H b = some (.lst zs) ∧ xs.length + zs.length ≤ sizeLine ∧ ∀ p, H p = none → Q (.ref p) (upd H p (.lst (xs ++ zs)))
theorem op_cat : OpR X (binaryOp .Add) rCat := by
  intro pins s σ H x y v u Q I rx ry h
  obtain ⟨l, b, xs, zs, rfl, rfl, hH, hB, hz, q⟩ := h
  cases rx
  cases ry
  obtain ⟨z, its, n, r, hl, e⟩ := I.lstM hH
  obtain ⟨z2, its2, n2, r2, hl2, e2⟩ := I.lstM hB
  refine PySem.P.add_list e e2 ?_ (by rw [List.size_toArray, List.size_toArray]; omega)
  have ea : its.toArray ++ its2.toArray = (its ++ its2).toArray := by simp
  rw [ea]
  exact ⟨.ref _, _, I.lnew (t' := s.toks) (r.append r2) (by rw [List.length_append]; omega), rfl, q _ I.fresh⟩
end
section
variable {prog : Program} {w : World} {A : Around} {E : Value → Shared → Prop} {s : Shared}
end
section
variable {X : Cx}
end
end L2
namespace Att
open PySem PySem.W PySem.Calls PyProof.Rows
theorem ints_of_wellAll {P : Params} {h : Heap} : ∀ (ns : List Int) (vs : List Value), WellAll P h vs (ns.map WData.int) → IntsAre vs ns := by
  intro ns
  induction ns with
  | nil =>
    intro vs w
    rw [List.map_nil] at w
    cases w
    exact .nil
  | cons n ns ih =>
    intro vs w
    rw [List.map_cons] at w
    cases w with
    | cons a b =>
      cases a
      exact .cons _ _ (ih _ b)
theorem script_of {l : OpenLaw} {n : Nat} (hn : l.most = some n) {P : Params} {h : Heap} {args : List WData} {vals : List Value}
    (hpre : l.row.toRowW.claim.pre args = true) (hwl : WellAll P h vals args) :
    ∃ a vs ns, vals = [Value.ref a] ∧ args = [WData.list (ns.map WData.int)] ∧ h.get? a = some { cls := .type "list", data := .seq vs.toArray } ∧ IntsAre vs ns ∧ ns.length ≤ n := by
  have hsh : WShape.hasAll [] args [.list .int] = true := (pre_splitW hpre).1
  have hc : l.pre.holds [] { args := args } = true := (pre_splitW hpre).2
  obtain ⟨d, r, rfl, h1, h2⟩ := hasAllW_cons hsh
  obtain rfl := hasAllW_nil h2
  obtain ⟨xs, rfl, h3⟩ := hasW_list h1
  obtain ⟨ns, rfl⟩ := items_int h3
  have hlen : ns.length ≤ n := by
    unfold OpenLaw.pre at hc
    have h4 : (WTm.not (.lt (.lit (.int (n : Int))) (.len (.arg 0)))).holds [] { args := [.list (ns.map .int)] } = true := by
      have h4 := (holds_andW hc).1
      rw [hn] at h4
      exact h4
    have h5 := condW_of h4 (w_not (w_lt w_lit (w_len_list (w_arg rfl))))
    rw [List.length_map] at h5
    refine Nat.le_of_not_lt fun q => ?_
    have q' : (n : Int) < ((ns.length : Nat) : Int) := by omega
    first
      | (rw [decide_eq_true q'] at h5; exact absurd h5 (by decide))
      | (simp at h5; omega)
  cases hwl with
  | cons w1 w2 =>
    cases w2
    cases w1 with
    | list ho hall => exact ⟨_, _, ns, rfl, rfl, ho, ints_of_wellAll ns _ hall, hlen⟩
theorem post_true (l : OpenLaw) (args : List WData) : l.row.toRowW.claim.post args (.bool true) args = true :=
  postW_of (r := l.row.toRowW) (X := (true == true))
    (show WShape.has [] (.bool true) .bool = true by first | rfl | decide | simp [WShape.has, WShape.arms, WShape.armsAll])
    (show (WTm.eq .res (.lit (.bool true))).value [] { args := args, res := some (.bool true), after := args } = some (.bool (true == true)) from w_eq_bool (w_res rfl) w_lit) rfl
theorem attach_call {l : OpenLaw} {n : Nat} {q : Program} {loose : List Str} {XP : (Str → Option Value) → Heap → Prop} {YP : World → Heap → Prop} {d : DefRec}
    (hn : l.most = some n) (hdf : d.params.defaults = [])
    (call : ∀ (w : World) (s₀ s₁ : Shared) (mg mb : Str → Option Value) (fa : Addr) (o : Obj) (pm cd doc : Value) (a : Addr) (vs : List Value) (ns : List Int),
      Ground q loose [] XP w s₀ mg mb s₁.heap → YP w s₁.heap →
      s₁.heap.get? fa = some o → o.data = .func (docDef d.name d.params d.body d.scope pm cd doc) → s₁.heap.CodeRec cd d.name → mg d.name = some (.ref fa) →
      s₁.heap.get? a = some { cls := .type "list", data := .seq vs.toArray } → IntsAre vs ns → ns.length ≤ n → s₁.gens = #[] →
      codeAny (model l.prog w) callerA (.call (.ref fa) ⟨[.ref a], []⟩) (fun r s' => r = .ok (.ret (.bool true)) ∧ OldK s₁.heap s'.heap ∧ s'.os = s₁.os ∧ AllBare s'.gens) s₁) :
    WalkO q loose XP YP l.row.toRowW d [] (fun f vs => PySem.call f vs) := by
  intro w s₀ s₁ mg mb G Y fa o pm cd doc dV kV ho hd hcd hD hmg hg args vals as hpre hlay hrd hwl hlo
  obtain rfl : dV = .none := Dflts.none hD hdf
  obtain rfl : kV = .none := Dflts.noKw hD
  obtain ⟨a, vs, ns, rfl, rfl, hobj, hints, hlen⟩ := script_of hn hpre hwl
  refine enter_call (codeAny_mono (call w s₀ s₁ mg mb fa o pm cd doc a vs ns G Y ho (fd_plain hd) hcd hmg hobj hints hlen hg) fun r s' hq => ?_)
  obtain ⟨rfl, h2, h3, h4⟩ := hq
  exact ⟨.inl ⟨.bool true, .bool true, [], rfl, fun _ => rfl, .bool true, post_true l _, fun _ => ⟨List.Pairwise.nil, fun _ hm => (nomatch hm)⟩⟩, h2, h3, h4⟩
section
variable {prog : Program} {w : World} {A : Around} {E : Value → Shared → Prop} {s : Shared} {K : Frag}
def ledger (h : Heap) (L d : Addr) : List (Addr × Obj) := (List.range h.objs.size).filterMap fun a => if a = L ∨ a = d then none else (h.get? a).map fun o => (a, o)
end
end Att
namespace L2
open PySem PySem.Spec PyProof.Rows
theorem vals_ints : ∀ {vs : List Value} {ns : List Int}, IntsAre vs ns → Vals (ns.map V.int) vs
  | _, _, .nil => .nil
  | _, _, .cons n t h => .cons ⟨t, rfl⟩ (vals_ints h)
def Only (H : Hp) : Prop := ∀ b, H b = none ∨ ∃ o xs, H b = some (.frz o (.lst xs))
theorem law_call {P : Program} {w : World} {K : PySem.W.Frag} {mg mb : Str → Option Value} {CX : CXT} {k : Nat} {fa a : Addr} {fd : FuncData} {x : Str} {sp : Sp} {s₁ : Shared} {vs : List Value} {ns : List Int}
    (KX : K.In s₁.heap) (hns : s₁.heap.Ns mainGlobals mg) (hb : s₁.heap.Ns builtinsNs mb) (hbb : ∀ x : Str, x ≠ "__name__" → mb x = bootBuiltins x) (hlim : s₁.heap.NoLimit) (hg : s₁.gens = #[])
    (ha : s₁.heap.get? a = some { cls := .type "list", data := .seq vs.toArray }) (hi : IntsAre vs ns) (hl : ns.length ≤ sizeLine) (hr : Room k callerA)
    (F : ∀ base : Heap, K.In base → base.Ns mainGlobals mg → FnOk P w K mg base CX k fa fd [x] sp) (hbind : ∀ (s : Shared) (u : Value), BindsTo s fd ⟨[u], []⟩ [(x, u)])
    (hsp : ∀ H : Hp, Only H → SqL K H a (ns.map V.int) → sp [.ref a] H (fun v _ => v = .bl true) fun _ _ _ => False)
    (hCX : ∀ H e s', CX [] H s₁ (fun _ _ _ => False) e s' → False) :
    codeAny (model P w) callerA (.call (.ref fa) ⟨[.ref a], []⟩) (fun r s' => r = .ok (.ret (.bool true)) ∧ OldK s₁.heap s'.heap ∧ s'.os = s₁.os ∧ AllBare s'.gens) s₁ := by
  have rv := vals_ints hi
  have lenV := hi.length
  have core : ∀ H : Hp, Only H → SqL K H a (ns.map V.int) → HOk P w H s₁.heap → (∀ b, H b ≠ none → b = a) → (H a ≠ none → K.lookup a = none) →
      codeAny (model P w) callerA (.call (.ref fa) ⟨[.ref a], []⟩) (fun r s' => r = .ok (.ret (.bool true)) ∧ OldK s₁.heap s'.heap ∧ s'.os = s₁.os ∧ AllBare s'.gens) s₁ := by
    intro H hO hS hok hA hK
    have base_of : ∀ {b : Addr} {o : Obj}, s₁.heap.get? b = some o → H b = none → (hidT s₁.heap H).get? b = some o := fun e n => hidT_get e n
    have noA : ∀ {b : Addr} {o : Obj} {es : Array DictEntry} {ep : Nat}, s₁.heap.get? b = some o → o.data = .dict es ep → H b = none := fun {b o es ep} e d => by
      cases q : H b with
      | none => rfl
      | some u =>
        have e' : b = a := hA b (by rw [q]; simp)
        subst e'
        rw [ha] at e; cases e
        have d' : Data.seq vs.toArray _ = Data.dict es ep := d
        cases d'
    have nsK : ∀ {b : Addr} {m : Str → Option Value}, s₁.heap.Ns b m → (hidT s₁.heap H).Ns b m := fun {b m} ⟨o, es, ep, e, d, r⟩ => ⟨o, es, ep, base_of e (noA e d), d, r⟩
    have hKb : K.In (hidT s₁.heap H) := fun b o e => base_of (KX b o e) (by
      cases q : H b with
      | none => rfl
      | some u =>
        have e' : b = a := hA b (by rw [q]; simp)
        subst e'
        rw [hK (by rw [q]; simp)] at e; cases e)
    have hM : Mod K mg (hidT s₁.heap H) := ⟨hKb, nsK hns, ⟨mb, nsK hb, hbb⟩, let ⟨mc, h1, h2⟩ := hlim; ⟨mc, nsK h1, h2⟩⟩
    have e0 : Env0 P w K mg (hidT s₁.heap H) callerA [] s₁ H := ⟨rfl, hM, fun b o e => of_hidT e, Nat.le_of_eq (hidT_size _ _), trivial, fun b hb => absurd (show b ∈ ([] : List Addr) from hb) (by simp), hok, .of_eq hg⟩
    refine codeAny_mono ((F _ hKb (nsK hns)).run callerA [] s₁ H ⟨[.ref a], []⟩ [.ref a] [.ref a] _ _ hr e0 (hbind s₁ (.ref a)) (.cons rfl .nil) (hsp H hO hS)) fun r s' h => ?_
    cases r with
    | error e => exact (hCX H e s' h).elim
    | ok fl =>
      cases fl with
      | next => exact False.elim h
      | brk => exact False.elim h
      | cont => exact False.elim h
      | ret u =>
        obtain ⟨v, H', os, bare, un, hok', r', q⟩ := h
        have q' : v = .bl true := q
        subst q'
        obtain rfl : u = Value.bool true := r'
        refine ⟨rfl, OldK.of_keep fun b o e => ?_, os, bare⟩
        cases q : H b with
        | none => exact un.keep b o e q (by intro z; exact absurd (show b ∈ ([] : List Addr) from z) (by simp)) (by simp)
        | some u =>
          rcases hO b with z | ⟨ob, xs, z⟩
          · rw [q] at z; cases z
          · have z2 := un.frzs b ob _ z
            obtain ⟨e1, _⟩ := hok b _ z
            obtain ⟨e2, _⟩ := hok' b _ z2
            rw [e] at e1; cases e1
            exact e2
  cases hk : K.lookup a with
  | some o =>
    have e := KX a o hk
    rw [ha] at e
    cases e
    refine core (fun _ => none) (fun _ => .inl rfl) (.inr ⟨_, vs.toArray, _, hk, rfl, rfl, rfl, by rw [List.size_toArray, lenV]; exact hl, by simpa using rv⟩) (fun b u z => by have z' : (none : Option HO) = some u := z; cases z') (fun b z => absurd rfl z) fun z => absurd rfl z
  | none =>
    refine core (fun b => if b = a then some (.frz { cls := .type "list", data := .seq vs.toArray } (.lst (ns.map V.int))) else none) (fun b => ?_) (.inl (.inr ⟨{ cls := .type "list", data := .seq vs.toArray }, if_pos rfl⟩)) (fun b u z => ?_) (fun b z => ?_) fun _ => hk
    · by_cases hb : b = a
      · exact .inr ⟨_, _, if_pos hb⟩
      · exact .inl (if_neg hb)
    · by_cases hb : b = a
      · have z' := (if_pos hb).symm.trans z
        cases z'
        subst hb
        exact ⟨ha, by rw [List.length_map]; exact hl, vs, _, rv, ha⟩
      · have z' := (if_neg hb).symm.trans z
        cases z'
    · by_cases hb : b = a
      · exact hb
      · exact absurd (if_neg hb) z
end L2
namespace L2
open PySem PySem.Spec PyProof.Rows
abbrev KOf {K : PySem.W.Frag} {h : Heap} (_ : K.In h) : PySem.W.Frag := K
theorem walk_of {l : PySem.W.OpenLaw} {n k : Nat} {q : Program} {loose : List Str} {XP : (Str → Option Value) → Heap → Prop} {YP : World → Heap → Prop} {d : DefRec} {K : Params → PySem.W.Frag} {CX : World → CXT} {sp : World → Sp} {x : Str}
    (hn : l.most = some n) (hn2 : n ≤ sizeLine) (hdf : d.params.defaults = []) (hr : Room k callerA)
    (hY : ∀ (w : World) (h : Heap), YP w h → (K w.params).In h)
    (F : ∀ (w : World) (mg : Str → Option Value) (fa : Addr) (h : Heap), (K w.params).In h → h.Ns mainGlobals mg → mg d.name = some (.ref fa) →
      ∃ fd : FuncData, (∀ (s : Shared) (u : Value), BindsTo s fd ⟨[u], []⟩ [(x, u)]) ∧
        ∀ base : Heap, (K w.params).In base → base.Ns mainGlobals mg → FnOk l.prog w (K w.params) mg base (CX w) k fa fd [x] (sp w))
    (hsp : ∀ (w : World) (H : Hp) (a : Addr) (ns : List Int), ns.length ≤ n → Only H → SqL (K w.params) H a (ns.map V.int) → sp w [.ref a] H (fun v _ => v = .bl true) fun _ _ _ => False)
    (hCX : ∀ (w : World) (H : Hp) (s : Shared) (e : Value) (s' : Shared), CX w [] H s (fun _ _ _ => False) e s' → False) :
    PySem.W.WalkO q loose XP YP l.row.toRowW d [] (fun f vs => PySem.call f vs) := by
  refine Att.attach_call hn hdf fun w s₀ s₁ mg mb fa o pm cd doc a vs ns G Y ho hd hcd hmg hobj hints hlen hg => ?_
  have KX := hY w _ Y
  obtain ⟨fd, hb, hF⟩ := F w mg fa _ KX G.T.g hmg
  exact law_call KX G.T.g G.T.b G.T.builtins G.T.nolimit hg hobj hints (Nat.le_trans hlen hn2) hr hF hb (fun H hO hS => hsp w H a ns hlen hO hS) fun H e s' => hCX w H s₁ e s'
end L2
namespace L2
open PySem PySem.Spec PyProof.Rows
def defArgs (s : Stmt) : Arguments := match s with
  | .FunctionDef _ a _ _ _ _ _ _ _ _ => a
  | _ => { posonlyargs := [], args := [], vararg := none, kwonlyargs := [], kw_defaults := [], kwarg := none, defaults := [] }
def defBody (s : Stmt) : List Stmt := match s with
  | .FunctionDef _ _ b _ _ _ _ _ _ _ => b
  | _ => []
def defScope (s : Stmt) : Scope := match s with
  | .FunctionDef _ _ _ _ _ _ sc _ _ _ => sc
  | _ => { kind := .function, names := [], isGenerator := false, isCoroutine := false }
abbrev CX0 : CXT := fun _ _ _ _ _ _ => False
abbrev E0 : XK := fun _ _ _ => False
theorem pass0 {X : Cx} : Passes CX0 X E0 := fun _ _ _ _ _ _ _ h => h.elim
structure Fun (K : PySem.W.Frag) (x qual : Str) (st : Stmt) (f : Addr) (fd : FuncData) : Prop where
  ex : ∃ (oc : Value) (od : Option Addr) (kV doc pm : Value) (an : Option Addr) (cdv ct : Value) (osl : Array (Option Value)),
    fd = PySem.W.fnOf x qual (defArgs st) (defBody st) (defScope st) .none kV doc pm an cdv ct ∧ K.lookup f = some ⟨oc, od, .func fd, osl⟩ ∧ PySem.W.codeIn K cdv qual = true
  kp : PySem.W.keepIn K (.ref f) = true
section
variable {P : Program} {w : World} {K : PySem.W.Frag} {mg : Str → Option Value} {base : Heap}
theorem Fun.ok {x qual : Str} {st : Stmt} {f : Addr} {fd : FuncData} {N ps : List Str} {k : Nat} {sp : Sp} (F : Fun K x qual st f fd) (S : FnScope N ps (defScope st)) (len : ∀ vs H Q E, sp vs H Q E → vs.length = ps.length)
    (hbody : ∀ (cdv : Value) (A : Around) (outer : List Env) (s : Shared) (H : Hp) (vs : List V) (Q : VK) (E : XK), Room k (A.deeper (envOfC qual (defScope st) s.heap.objs.size f cdv)) → sp vs H Q E →
      ∃ t, PSs (cxOf CX0 P w K mg base N qual (defScope st) f cdv A outer s H E).nox (defBody st) t ∧ t { nx := fun _ H' => Q .non H', rt := Q } (start N vs) H) : FnOk P w K mg base CX0 (k + 1) f fd ps sp := by
  obtain ⟨oc, od, kV, doc, pm, an, cdv, ct, osl, rfl, lk, hcd⟩ := F.ex
  refine fn_of lk hcd S len fun A outer s H vs Q E hr hsp => ?_
  obtain ⟨t, h, q⟩ := hbody cdv A outer s H vs Q E hr hsp
  exact ⟨t, h.nox, q⟩
theorem Fun.binds {x qual : Str} {st : Stmt} {f : Addr} {fd : FuncData} {ps : List Str} (F : Fun K x qual st f fd)
    (h : ∀ (kV doc pm : Value) (an : Option Addr) (cdv ct : Value) (us : List Value), us.length = ps.length → bindArgs (PySem.W.fnOf x qual (defArgs st) (defBody st) (defScope st) .none kV doc pm an cdv ct) ⟨us, []⟩ = pure (ps.zip us)) : Binds K fd ps [] := by
  obtain ⟨oc, od, kV, doc, pm, an, cdv, ct, osl, rfl, lk, hcd⟩ := F.ex
  exact .all (h kV doc pm an cdv ct)
theorem fun_mk {x qual : Str} {st : Stmt} {f : Addr} {oc : Value} {od an : Option Addr} {osl : Array (Option Value)} {kV doc pm cdv ct : Value} (l : K.lookup f = some ⟨oc, od, .func (PySem.W.fnOf x qual (defArgs st) (defBody st) (defScope st) .none kV doc pm an cdv ct), osl⟩)
    (c : PySem.W.codeIn K cdv qual = true) (k : PySem.W.keepIn K (.ref f) = true) : Fun K x qual st f (PySem.W.fnOf x qual (defArgs st) (defBody st) (defScope st) .none kV doc pm an cdv ct) := ⟨⟨oc, od, kV, doc, pm, an, cdv, ct, osl, rfl, l, c⟩, k⟩
end
theorem hu_of {A : Around} {k : Nat} (hr : Room k A) : A.units + 1 < cLine := Nat.lt_of_le_of_lt (Nat.add_le_add_left (by decide : 1 ≤ 64) _) hr.units
section
variable {X : Cx}
theorem pv (i : Nat) {x : Str} {pos : Pos} (hN : X.N[i]? = some x := by rfl) (hv : Vis X.env.scope x := by first | exact Or.inl rfl | exact Or.inr (Or.inl rfl) | exact Or.inr (Or.inr rfl)) (hd : (x == ("__debug__" : Str)) = false := by decide)
    (hcd : (x == ("__classdict__" : Str)) = false := by decide) : PE X (.Name x pos) (tVar i) := pe_var hN hv hd hcd
end
theorem iteF {A B : Prop} (h : B) : if false = true then A else B := by
  rw [if_neg Bool.false_ne_true]
  exact h
theorem iteT {A B : Prop} (h : A) : if true = true then A else B := by
  rw [if_pos rfl]
  exact h
def Same (H H' : Hp) : Prop := ∀ b o, H b = some o → H' b = some o
theorem Same.refl (H : Hp) : Same H H := fun _ _ h => h
theorem Same.trans {H H1 H2 : Hp} (a : Same H H1) (b : Same H1 H2) : Same H H2 := fun c o h => b c o (a c o h)
theorem Same.free {H H' : Hp} (e : Same H H') {l : Addr} (h : H' l = Option.none) : H l = Option.none := by
  cases q : H l with
  | none => rfl
  | some o =>
    rw [e l o q] at h
    cases h
theorem Same.seq {K : PySem.W.Frag} {H H' : Hp} {a : Addr} {xs : List V} (e : Same H H') (h : SqL K H a xs) : SqL K H' a xs := by
  rcases h with (h | ⟨o, h⟩) | h
  · exact .inl (.inl (e _ _ h))
  · exact .inl (.inr ⟨o, e _ _ h⟩)
  · exact .inr h
end L2
namespace Hd
open PySem PySem.W PySem.Calls PyProof.Rows
def bt : Nat → Nat → Nat → List Obj → BT
  | 0, _, _, _ => .nil
  | f + 1, a, b, l => match l[b]? with
    | none => .nil
    | some o => .node o (bt f (2 * a) (a + b) l) (bt f (2 * a) (2 * a + b) l)
theorem bt_get : ∀ (f a b : Nat) (l : List Obj) (i : Nat), 0 < a → i < f → (bt f a b l).get i = l[b + a * i]?
  | 0, _, _, _, _, _, h => absurd h (Nat.not_lt_zero _)
  | f + 1, a, b, l, i, ha, hi => by
    unfold bt
    cases e : l[b]? with
    | none =>
      have h1 : l.length ≤ b := List.getElem?_eq_none_iff.mp e
      have h2 : b ≤ b + a * i := Nat.le_add_right _ _
      rw [List.getElem?_eq_none (by omega)]
      rfl
    | some o =>
      show (BT.node o _ _).get i = _
      rw [BT.get_node]
      by_cases h0 : i = 0
      · subst h0; rw [if_pos rfl, Nat.mul_zero, Nat.add_zero, e]
      · rw [if_neg h0]
        by_cases h1 : i % 2 = 1
        · rw [if_pos h1, bt_get f (2 * a) (a + b) l (i / 2) (by omega) (by omega)]
          congr 1
          have e2 : i = 2 * (i / 2) + 1 := by omega
          calc a + b + 2 * a * (i / 2) = b + a * (2 * (i / 2) + 1) := by rw [Nat.mul_add, Nat.mul_one, ← Nat.mul_assoc, Nat.mul_comm a 2]; omega
            _ = b + a * i := by rw [← e2]
        · rw [if_neg h1, bt_get f (2 * a) (2 * a + b) l (i / 2 - 1) (by omega) (by omega)]
          congr 1
          have e2 : i = 2 * ((i / 2 - 1) + 1) := by omega
          calc 2 * a + b + 2 * a * (i / 2 - 1) = b + a * (2 * ((i / 2 - 1) + 1)) := by rw [← Nat.mul_assoc, Nat.mul_comm a 2, Nat.mul_add, Nat.mul_one]; omega
            _ = b + a * i := by rw [← e2]
def toT (n : Nat) (s : Shared) : SharedT := ⟨bt n 1 0 s.heap.objs.toList, n, s.heap.life, s.gens, s.drawn, s.toks, s.os⟩
theorem toT_abs {n : Nat} {s : Shared} (h : s.heap.objs.size = n) : (toT n s).abs = s := by
  obtain ⟨⟨objs, life⟩, g, d, k, os⟩ := s
  have e : absHeap (bt n 1 0 objs.toList) n life = ⟨objs, life⟩ := by
    have q : (absHeap (bt n 1 0 objs.toList) n life).objs = objs := by
      apply Array.ext_getElem?
      intro i
      rw [absHeap_at]
      by_cases hi : i < n
      · rw [if_pos hi, bt_get n 1 0 _ i (by decide) hi, Nat.zero_add, Nat.one_mul]
        have : i < objs.size := by rw [h]; exact hi
        simp [this]
      · rw [if_neg hi]
        exact (Array.getElem?_eq_none (by rw [h]; omega)).symm
    show Heap.mk (absHeap (bt n 1 0 objs.toList) n life).objs life = _
    rw [q]
  show Shared.mk (absHeap (bt n 1 0 objs.toList) n life) g d k os = _
  rw [e]
abbrev body (p : Program) (env : Env) : Code := .body (behindTheImports p) env
abbrev base (fp : Pos) : List Frame := [topFrame fp]
def look {α : Type} (p q : Program) (loose : List Str) (Xt : Shared → Bool) (Yf : Shared → α) (H₀ : Heap) (s : Shared) :=
  ((staticsOk (importedModules p.main.body) H₀ s.heap && namesBound p s.heap && gensDone s && laidKept H₀ s.heap), openSeen q loose (importedModules p.main.body) Xt true s, Yf s)
theorem left_of {p q : Program} {loose : List Str} {Xt : Shared → Bool} {α : Type} {Yf : Shared → α} {Ya : World → α} {N m₀ k1 k2 k3 k4 n₁ : Nat} {ann : Option Value} {env : Env} {fp p1 p2 p3 : Pos}
    (e0 : opening p = plainProg p.main.scope.names) (hN : Nat.ble 600 N = true) (f0 : ∀ s, fenceModules? p s = some s)
    (size : ∀ w : World, ((boot_heap w.params).isNs mainGlobals && (Array.mk ([] : List GenState)).size == 0, (boot_heap w.params).objs.size, (boot_heap w.params).nsMap mainGlobals "__annotations__") = (true, m₀, ann))
    (le : Nat.ble (k1 + (k2 + (k3 + k4))) N = true)
    (h : ∀ w : World, (fun os => (topGo treeTable p w m₀ ann k1 ⟨boot_heap w.params, Array.mk [], boot_drawn, boot_toks, os⟩ (topStub p)).map fun r => (r.2,
        (segRun treeTable p w m₀ ann 1 k2 r.1 (blockOf (behindTheImports p) env (body p env) p1 (base fp))).map fun b => ((b.1, b.2.2, b.2.1.heap.objs.size),
          (segRunT treeTable p w m₀ ann 1 k3 (toT n₁ b.2.1) (piecesOf (behindTheImports p) env (body p env) p2 (base fp))).map fun c => ((c.1, c.2.2),
            (topRun treeTable p w m₀ ann k4 c.2.1.abs ⟨doneF .next, body p env, p3, base fp⟩).map (look p q loose Xt Yf (boot_heap w.params)))))) =
      fun _ => some (⟨denote treeTable (body p env), body p env, p1, base fp⟩, some ((.next, (body p env, p2), n₁), some ((.next, body p env, p3), some (true, openGood q loose, Ya w))))) :
    LeftO p q loose Xt Yf Ya N := fun w => by
  obtain ⟨s0, a0, b0⟩ := Option.map_eq_some_iff.mp (boot_open e0 hN f0 w)
  obtain ⟨hp, gs, d, k, os⟩ := s0
  obtain ⟨rfl, rfl, rfl, rfl⟩ : hp = boot_heap w.params ∧ gs = Array.mk [] ∧ d = boot_drawn ∧ k = boot_toks := by simpa using b0
  obtain ⟨z1, z2, z3⟩ : _ ∧ _ ∧ _ := by simpa only [Prod.mk.injEq] using size w
  obtain ⟨⟨s1, t1⟩, h1, e1⟩ := Option.map_eq_some_iff.mp (congrFun (h w) os)
  obtain ⟨rfl, e1⟩ := Prod.mk.inj e1
  obtain ⟨⟨f2, s2, c2, q2⟩, h2, e2⟩ := Option.map_eq_some_iff.mp e1
  obtain ⟨e2, e2'⟩ := Prod.mk.inj e2
  obtain ⟨rfl, e2⟩ := Prod.mk.inj e2
  obtain ⟨e2, hz⟩ := Prod.mk.inj e2
  obtain ⟨rfl, rfl⟩ := Prod.mk.inj e2
  obtain ⟨⟨f3, s3, c3, q3⟩, h3, e3⟩ := Option.map_eq_some_iff.mp e2'
  obtain ⟨e3, e3'⟩ := Prod.mk.inj e3
  obtain ⟨rfl, e3⟩ := Prod.mk.inj e3
  obtain ⟨rfl, rfl⟩ := Prod.mk.inj e3
  obtain ⟨s4, h4, e4⟩ := Option.map_eq_some_iff.mp e3'
  have h3' := segRun_of h3
  rw [toT_abs hz] at h3'
  have h4' : topRun treeTable p w m₀ ann (k3 + k4) s2 (restOf (behindTheImports p ++ []) env (body p env) _ [topFrame fp]) = some s4 := piece_app h3' h4
  rw [List.append_nil] at h4'
  have r := topRun_mono (N - (k1 + (k2 + (k3 + k4)))) _ _ _ _ (go_top h1 (piece_block h2 h4'))
  rw [show k1 + (k2 + (k3 + k4)) + (N - (k1 + (k2 + (k3 + k4)))) = N by have := Nat.le_of_ble_eq_true le; omega] at r
  obtain ⟨l1, l2⟩ := Prod.mk.inj e4
  have t : topFrom treeTable p w N ⟨boot_heap w.params, Array.mk [], boot_drawn, boot_toks, os⟩ = some s4 := by
    unfold topFrom
    dsimp only
    rw [z1, z2, z3, r]
    dsimp only [Option.bind_some]
    rw [l1]
  unfold openEnds
  rw [a0]
  show (topFrom treeTable p w N _).map _ = _
  rw [t]
  exact congrArg some l2
end Hd
namespace L2
open PySem PySem.Spec PyProof.Rows
section
variable {κ : Type} [DecidableEq κ]
def valV (kvs : List (κ × V)) (k : κ) : Option V := (kvs.find? fun kv => decide (kv.1 = k)).map (·.2)
def putK (kvs : List (κ × V)) (k : κ) (v : V) : List (κ × V) :=
  if (kvs.any fun kv => decide (kv.1 = k)) = true then kvs.map (fun kv => if kv.1 = k then (kv.1, v) else kv) else kvs ++ [(k, v)]
theorem valV_nil {k : κ} : valV ([] : List (κ × V)) k = none := rfl
theorem valV_pos {p : κ × V} {r : List (κ × V)} {k : κ} (e : p.1 = k) : valV (p :: r) k = some p.2 := by simp [valV, List.find?_cons, e]
theorem valV_neg {p : κ × V} {r : List (κ × V)} {k : κ} (e : ¬ p.1 = k) : valV (p :: r) k = valV r k := by simp [valV, List.find?_cons, e]
theorem valV_any (k : κ) : ∀ kvs : List (κ × V), (kvs.any fun kv => decide (kv.1 = k)) = (valV kvs k).isSome
  | [] => rfl
  | p :: r => by
    rw [List.any_cons]
    by_cases e : p.1 = k
    · simp only [valV_pos e, decide_eq_true e, Bool.true_or, Option.isSome_some]
    · rw [valV_neg e, decide_eq_false e, Bool.false_or]; exact valV_any k r
theorem valV_map (k j : κ) (y : V) : ∀ kvs : List (κ × V), valV (kvs.map fun kv => if kv.1 = k then (kv.1, y) else kv) j = (valV kvs j).map fun x => if j = k then y else x
  | [] => rfl
  | p :: r => by
    have ih := valV_map k j y r
    rw [List.map_cons]
    by_cases h : p.1 = k
    · rw [if_pos h]
      by_cases e : p.1 = j
      · rw [valV_pos (p := (p.1, y)) e, valV_pos e, Option.map_some, if_pos (e.symm.trans h)]
      · rw [valV_neg (p := (p.1, y)) e, valV_neg e, ih]
    · rw [if_neg h]
      by_cases e : p.1 = j
      · rw [valV_pos (p := p) e, valV_pos e, Option.map_some, if_neg (fun z => h (e.trans z))]
      · rw [valV_neg (p := p) e, valV_neg e, ih]
theorem valV_snoc (k j : κ) (y : V) : ∀ kvs : List (κ × V), valV kvs k = none → valV (kvs ++ [(k, y)]) j = if j = k then some y else valV kvs j
  | [], _ => by
    by_cases e : k = j
    · rw [if_pos e.symm]; exact valV_pos (p := (k, y)) e
    · rw [if_neg (fun z => e z.symm)]; exact valV_neg (p := (k, y)) e
  | p :: r, hn => by
    rw [List.cons_append]
    have hk : ¬ p.1 = k := fun z => by rw [valV_pos z] at hn; cases hn
    rw [valV_neg hk] at hn
    have ih := valV_snoc k j y r hn
    by_cases e : p.1 = j
    · rw [valV_pos e, valV_pos e, if_neg (fun z => hk (e.trans z))]
    · rw [valV_neg e, valV_neg e, ih]
theorem valV_put (kvs : List (κ × V)) (k j : κ) (y : V) : valV (putK kvs k y) j = if j = k then some y else valV kvs j := by
  unfold putK
  by_cases a : (kvs.any fun kv => decide (kv.1 = k)) = true
  · rw [if_pos a, valV_map]
    rw [valV_any] at a
    by_cases e : j = k
    · obtain ⟨x, hx⟩ := Option.isSome_iff_exists.mp a
      rw [if_pos e, e, hx, Option.map_some, if_pos rfl]
    · rw [if_neg e]
      cases valV kvs j with
      | none => rfl
      | some x => rw [Option.map_some, if_neg e]
  · rw [if_neg a]
    refine valV_snoc k j y kvs ?_
    rw [valV_any] at a
    cases q : valV kvs k with
    | none => rfl
    | some x => rw [q] at a; exact (a rfl).elim
theorem length_putK (kvs : List (κ × V)) (k : κ) (v : V) : (putK kvs k v).length ≤ kvs.length + 1 := by
  unfold putK
  split
  · rw [List.length_map]; omega
  · rw [List.length_append, List.length_cons, List.length_nil]; omega
theorem putK_new {kvs : List (κ × V)} {k : κ} (v : V) (h : valV kvs k = none) : putK kvs k v = kvs ++ [(k, v)] := by
  unfold putK
  rw [valV_any, h]
  exact if_neg (by decide)
theorem RelO.isSome_eq {o : Option V} {u : Option Value} (r : RelO o u) : o.isSome = u.isSome := by
  cases o with
  | none => cases u with
    | none => rfl
    | some _ => exact (show False from r).elim
  | some _ => cases u with
    | none => exact (show False from r).elim
    | some _ => rfl
theorem RelO.getD {o : Option V} {u : Option Value} {d : V} {d' : Value} (r : RelO o u) (rd : RelV d d') : RelV (o.getD d) (u.getD d') := by
  cases o with
  | none => cases u with
    | none => exact rd
    | some _ => exact (show False from r).elim
  | some _ => cases u with
    | none => exact (show False from r).elim
    | some _ => exact r
theorem KV.val {kvs : List (κ × V)} {vs : List (κ × Value)} (r : KV kvs vs) (k : κ) : RelO (valV kvs k) (valueAt vs k) := by
  unfold KV at r
  induction r with
  | nil => exact True.intro
  | @cons p q ps qs h t ih =>
    obtain ⟨h1, h2⟩ := h
    by_cases e : p.1 = k
    · have e' : q.1 = k := h1.symm.trans e
      have b : valueAt (q :: qs) k = some q.2 := by simp [valueAt, List.find?_cons, e']
      rw [valV_pos e, b]; exact h2
    · have e' : ¬ q.1 = k := fun z => e (h1.trans z)
      have b : valueAt (q :: qs) k = valueAt qs k := by simp [valueAt, List.find?_cons, e']
      rw [valV_neg e, b]; exact ih
theorem KV.any {kvs : List (κ × V)} {vs : List (κ × Value)} (r : KV kvs vs) (k : κ) : (kvs.any fun kv => decide (kv.1 = k)) = vs.any fun kv => decide (kv.1 = k) := by
  unfold KV at r
  induction r with
  | nil => rfl
  | cons h t ih => rw [List.any_cons, List.any_cons, ih, h.1]
theorem KV.repl {kvs : List (κ × V)} {vs : List (κ × Value)} (r : KV kvs vs) (k : κ) {y : V} {u : Value} (ry : RelV y u) :
    KV (kvs.map fun kv => if kv.1 = k then (kv.1, y) else kv) (vs.map fun kv => if kv.1 = k then (kv.1, u) else kv) := by
  unfold KV at r ⊢
  induction r with
  | nil => exact .nil
  | @cons p q ps qs h t ih =>
    rw [List.map_cons, List.map_cons]
    refine .cons ?_ ih
    obtain ⟨h1, h2⟩ := h
    by_cases e : p.1 = k
    · rw [if_pos e, if_pos (h1.symm.trans e)]; exact ⟨h1, ry⟩
    · rw [if_neg e, if_neg (fun z => e (h1.trans z))]; exact ⟨h1, h2⟩
theorem KV.put {kvs : List (κ × V)} {vs : List (κ × Value)} (r : KV kvs vs) (k : κ) {y : V} {u : Value} (ry : RelV y u) : KV (putK kvs k y) (stored vs k u) := by
  unfold putK stored
  rw [r.any k]
  by_cases e : (vs.any fun kv => decide (kv.1 = k)) = true
  · rw [if_pos e, if_pos e]; exact r.repl k ry
  · rw [if_neg e, if_neg e]; exact Paired.snoc r ⟨rfl, ry⟩
theorem KV.length {kvs : List (κ × V)} {vs : List (κ × Value)} (r : KV kvs vs) : kvs.length = vs.length := Paired.length r
end
theorem kV_is {P : Program} {w : World} {k : Key} {u : Value} (r : RelV (kV k) u) : (mixKind P w).is k u = true := by
  cases k with
  | inl i => obtain ⟨t, e⟩ := (show ∃ t, u = Value.int i t from r); subst e; exact mixKind_int P w i t
  | inr x => obtain ⟨t, e⟩ := (show ∃ t, u = Value.str x t from r); subst e; exact mixKind_str P w x t
theorem items_are {P : Program} {w : World} : ∀ {ks : List Key} {us : List Value}, Vals (ks.map kV) us → ItemsAre (mixKind P w) ks us
  | [], _, r => by rw [List.map_nil] at r; cases r; exact .nil
  | k :: ks, _, r => by
    rw [List.map_cons] at r
    cases r with
    | cons h t => exact .cons (kV_is h) (items_are t)
abbrev KT (H : Hp) : List (List Key × V) → List (List Key × Addr × Value) → Prop := Paired fun p q => p.1 = q.1 ∧ H q.2.1 = some (.tup (p.1.map kV)) ∧ RelV p.2 q.2.2
theorem KT.val {H : Hp} {kvs : List (List Key × V)} {xs : List (List Key × Addr × Value)} (r : KT H kvs xs) (k : List Key) : RelO (valV kvs k) ((atKey xs k).map (·.2)) := by
  induction r with
  | nil => exact True.intro
  | @cons p q ps qs h t ih =>
    obtain ⟨h1, _, h2⟩ := h
    by_cases e : p.1 = k
    · have e' : q.1 = k := h1.symm.trans e
      have b : atKey (q :: qs) k = some q.2 := by simp [atKey, List.find?_cons, e']
      rw [valV_pos e, b]; exact h2
    · have e' : ¬ q.1 = k := fun z => e (h1.trans z)
      have b : atKey (q :: qs) k = atKey qs k := by simp [atKey, List.find?_cons, e']
      rw [valV_neg e, b]; exact ih
theorem KT.repl {H : Hp} {kvs : List (List Key × V)} {xs : List (List Key × Addr × Value)} (r : KT H kvs xs) (k : List Key) {y : V} {u : Value} (ry : RelV y u) :
    KT H (kvs.map fun kv => if kv.1 = k then (kv.1, y) else kv) (xs.map (putAt k u)) := by
  induction r with
  | nil => exact .nil
  | @cons p q ps qs h t ih =>
    rw [List.map_cons, List.map_cons]
    refine .cons ?_ ih
    obtain ⟨h1, h2, h3⟩ := h
    unfold putAt
    by_cases e : p.1 = k
    · rw [if_pos e, if_pos (h1.symm.trans e)]; exact ⟨h1, h2, ry⟩
    · rw [if_neg e, if_neg (fun z => e (h1.trans z))]; exact ⟨h1, h2, h3⟩
theorem KT.put {H : Hp} {kvs : List (List Key × V)} {xs : List (List Key × Addr × Value)} (r : KT H kvs xs) (k : List Key) {b : Addr} {y : V} {u : Value} (hb : H b = some (.tup (k.map kV))) (ry : RelV y u) :
    KT H (putK kvs k y) (storedH xs k b u) := by
  have e : (kvs.any fun kv => decide (kv.1 = k)) = (atKey xs k).isSome := by
    rw [valV_any, (r.val k).isSome_eq, Option.isSome_map]
  unfold putK storedH
  rw [e]
  by_cases q : (atKey xs k).isSome = true
  · rw [if_pos q, if_pos q]; exact r.repl k ry
  · rw [if_neg q, if_neg q]; exact Paired.snoc r ⟨rfl, hb, ry⟩
theorem KT.keeps {H H' : Hp} {kvs : List (List Key × V)} {xs : List (List Key × Addr × Value)} (r : KT H kvs xs) (ht : ∀ b ys, H b = some (.tup ys) → H' b = some (.tup ys)) : KT H' kvs xs :=
  Paired.mapP r fun _ _ z => ⟨z.1, ht _ _ z.2.1, z.2.2⟩
section
variable {P : Program} {w : World} {H : Hp} {h : Heap} {a : Addr}
theorem rd_of {u : HO} (ok : HOk P w H h) (e : Rd H a u) : ObjOk P w H h a u := e.ok ok
theorem dk_rd {kvs : List (Key × V)} (ok : HOk P w H h) (e : Rd H a (.dK kvs)) : kvs.length ≤ sizeLine ∧ (a == sysModules) = false ∧ ∃ vs, KV kvs vs ∧ h.DictOf (mixKind P w) a vs :=
  show ObjOk P w H h a (.dK kvs) from rd_of ok e
theorem dk_of {kvs : List (Key × V)} (ok : HOk P w H h) (e : H a = some (.dK kvs)) : kvs.length ≤ sizeLine ∧ (a == sysModules) = false ∧ ∃ vs, KV kvs vs ∧ h.DictOf (mixKind P w) a vs := dk_rd ok (.inl e)
theorem key_of {ks : List Key} (ok : HOk P w H h) (e : H a = some (.tup (ks.map kV))) : (tupleKind (mixKind P w)).is h ks a := by
  obtain ⟨_, its, r, o, h1, h2, n, h3⟩ := (show ObjOk P w H h a (.tup (ks.map kV)) from ok a _ e)
  exact ⟨o, its.toArray, n, h1, h2, h3, by simpa using items_are r⟩
theorem dt_rd {kvs : List (List Key × V)} (ok : HOk P w H h) (e : Rd H a (.dT kvs)) : kvs.length ≤ sizeLine ∧ (a == sysModules) = false ∧
    ∃ xs, KT H kvs xs ∧ h.DictOfH (tupleKind (mixKind P w)) a xs := by
  obtain ⟨z, y, xs, r, o, es, ep, h1, h2, h3, h4, h5⟩ := (show ObjOk P w H h a (.dT kvs) from rd_of ok e)
  refine ⟨z, y, xs, r, o, es, ep, h1, h2, h3, h4, fun x hx => ?_, h5⟩
  have all : ∀ {l : List (List Key × V)} {m : List (List Key × Addr × Value)}, KT H l m → ∀ x ∈ m, (tupleKind (mixKind P w)).is h x.1 x.2.1 := by
    intro l m q
    induction q with
    | nil => intro x hx; exact nomatch hx
    | @cons p q ps qs hq t ih =>
      intro x hx
      rcases List.mem_cons.mp hx with e | hx
      · subst e
        exact key_of ok (by rw [← hq.1]; exact hq.2.1)
      · exact ih x hx
  exact all r x hx
theorem dt_of {kvs : List (List Key × V)} (ok : HOk P w H h) (e : H a = some (.dT kvs)) : kvs.length ≤ sizeLine ∧ (a == sysModules) = false ∧
    ∃ xs, KT H kvs xs ∧ h.DictOfH (tupleKind (mixKind P w)) a xs := dt_rd ok (.inl e)
end
def DGet (H : Hp) (a : Addr) (y : V) (r : Option V) : Prop :=
  (∃ kvs k, Rd H a (.dK kvs) ∧ y = kV k ∧ r = valV kvs k) ∨ ∃ kvs k b, Rd H a (.dT kvs) ∧ y = .ref b ∧ H b = some (.tup (k.map kV)) ∧ r = valV kvs k
def DPut (H : Hp) (a : Addr) (y v : V) (H' : Hp) : Prop :=
  (∃ kvs k, H a = some (.dK kvs) ∧ y = kV k ∧ kvs.length < sizeLine ∧ H' = upd H a (.dK (putK kvs k v))) ∨
  ∃ kvs k b, H a = some (.dT kvs) ∧ y = .ref b ∧ H b = some (.tup (k.map kV)) ∧ kvs.length < sizeLine ∧ H' = upd H a (.dT (putK kvs k v))
theorem DGet.k {H : Hp} {a : Addr} {kvs : List (Key × V)} {k : Key} (e : H a = some (.dK kvs)) : DGet H a (kV k) (valV kvs k) := .inl ⟨kvs, k, .inl e, rfl, rfl⟩
theorem DPut.k {H : Hp} {a : Addr} {kvs : List (Key × V)} {k : Key} {v : V} (e : H a = some (.dK kvs)) (hl : kvs.length < sizeLine) : DPut H a (kV k) v (upd H a (.dK (putK kvs k v))) := .inl ⟨kvs, k, e, rfl, hl, rfl⟩
section
variable {X : Cx} {pins : List (Addr × Obj)} {σ : St} {H : Hp} {s : Shared} {a : Addr} {y v : V} {u r : Value} {o : Option V} {A : Around} {E : Value → Shared → Prop}
theorem Inv.big (I : Inv X pins σ H s) : sysModules < s.heap.objs.size := by
  have h : mainGlobals < s.heap.objs.size := (I.mod.glob.keeps I.bk).lt
  exact Nat.lt_trans (by decide) h
theorem d_getItem {Q : Value → Shared → Prop} (hu : A.units + 1 < cLine) (I : Inv X pins σ H s) (g : DGet H a y (some v)) (ry : RelV y u) (h : ∀ w' s', Inv X pins σ H s' → RelV v w' → Q w' s') :
    wpAny (model X.prog X.w) A (getItem (.ref a) u) Q E s := by
  rcases g with ⟨kvs, k, e, ey, l⟩ | ⟨kvs, k, b, e, ey, eb, l⟩
  · subst ey
    obtain ⟨z, hd, vs, rel, dd⟩ := dk_rd I.hok e
    obtain ⟨w', hw, rw'⟩ := RelO.some_of (v := v) (o := valueAt vs k) (by rw [l]; exact rel.val k)
    exact wpAny_getItem_of (kV_is ry) dd.mapOf hw (h w' _ (I.tok _) rw')
  · subst ey
    cases (show u = Value.ref b from ry)
    obtain ⟨z, hd, xs, rel, dd⟩ := dt_rd I.hok e
    obtain ⟨w', hw, rw'⟩ := RelO.some_of (v := v) (o := (atKey xs k).map (·.2)) (by rw [l]; exact rel.val k)
    obtain ⟨p, hp, hp2⟩ := Option.map_eq_some_iff.mp hw
    refine wpAny_getItem_heap (tupleKind_room_in1 hu) (key_of I.hok eb) dd hp ?_
    rw [hp2]
    exact h w' _ (I.tok _) rw'
theorem d_in {Q : Value → Shared → Prop} (hu : A.units + 1 < cLine) (I : Inv X pins σ H s) (g : DGet H a y o) (ry : RelV y u) (h : ∀ s', Inv X pins σ H s' → Q (.bool o.isSome) s') :
    wpAny (model X.prog X.w) A (compareOp .In u (.ref a)) Q E s := by
  rcases g with ⟨kvs, k, e, ey, l⟩ | ⟨kvs, k, b, e, ey, eb, l⟩
  · subst ey
    obtain ⟨z, hd, vs, rel, dd⟩ := dk_rd I.hok e
    refine wpAny_in_of (kV_is ry) hd dd.mapOf ?_
    rw [← (rel.val k).isSome_eq, ← l]
    exact h _ (I.tok _)
  · subst ey
    cases (show u = Value.ref b from ry)
    obtain ⟨z, hd, xs, rel, dd⟩ := dt_rd I.hok e
    refine wpAny_in_heap (tupleKind_room_in1 hu) (key_of I.hok eb) hd dd ?_
    have q := (rel.val k).isSome_eq
    rw [Option.isSome_map] at q
    rw [← q, ← l]
    exact h _ (I.tok _)
theorem d_notIn {Q : Value → Shared → Prop} (hu : A.units + 1 < cLine) (I : Inv X pins σ H s) (g : DGet H a y o) (ry : RelV y u) (h : ∀ s', Inv X pins σ H s' → Q (.bool (!o.isSome)) s') :
    wpAny (model X.prog X.w) A (compareOp .NotIn u (.ref a)) Q E s := by
  rcases g with ⟨kvs, k, e, ey, l⟩ | ⟨kvs, k, b, e, ey, eb, l⟩
  · subst ey
    obtain ⟨z, hd, vs, rel, dd⟩ := dk_rd I.hok e
    refine wpAny_notIn_of (kV_is ry) hd dd.mapOf ?_
    rw [← (rel.val k).isSome_eq, ← l]
    exact h _ (I.tok _)
  · subst ey
    cases (show u = Value.ref b from ry)
    obtain ⟨z, hd, xs, rel, dd⟩ := dt_rd I.hok e
    refine wpAny_notIn_heap (tupleKind_room_in1 hu) (key_of I.hok eb) hd dd ?_
    have q := (rel.val k).isSome_eq
    rw [Option.isSome_map] at q
    rw [← q, ← l]
    exact h _ (I.tok _)
theorem d_write {h' : Heap} {t' : Nat} {ob : HO} (I : Inv X pins σ H s) (mu : Mut (H a)) (hs : Heap.SameBut a s.heap h') (he : ∃ q, h'.get? a = some q) (new : ObjOk X.prog X.w (upd H a ob) h' a ob) :
    Inv X pins σ (upd H a ob) { s with heap := h', toks := t' } :=
  I.write (x := a) (e := a) mu (.inl rfl) (fun b q hb z => (hs.2 b hb).trans z) he new
theorem dk_new {P : Program} {w : World} {H' : Hp} {h' : Heap} {kvs : List (Key × V)} {vs : List (Key × Value)} (z : kvs.length ≤ sizeLine) (hd : (a == sysModules) = false) (rel : KV kvs vs) (dd : h'.DictOf (mixKind P w) a vs) :
    ObjOk P w H' h' a (.dK kvs) := ⟨z, hd, vs, rel, dd⟩
theorem d_setItem {H' : Hp} {Q : Unit → Shared → Prop} (hu : A.units + 1 < cLine) (I : Inv X pins σ H s) (g : DPut H a y v H') (ry : RelV y u) (rv : RelV v r) (h : ∀ s', Inv X pins σ H' s' → Q () s') :
    wpAny (model X.prog X.w) A (setItem (.ref a) u r) Q E s := by
  rcases g with ⟨kvs, k, e, ey, l, eH⟩ | ⟨kvs, k, b, e, ey, eb, l, eH⟩
  · subst ey eH
    obtain ⟨z, hd, vs, rel, dd⟩ := dk_of I.hok e
    have hz : vs.length ≤ sizeLine := by rw [← rel.length]; exact z
    have hl : (putK kvs k v).length ≤ sizeLine := by have := length_putK kvs k v; omega
    refine wpAny_setItem_pairs (hsz := hz) (kV_is ry) dd fun h' dd' hs => h _ ?_
    have he : ∃ q, h'.get? a = some q := let ⟨q, _, _, hq, _⟩ := dd'; ⟨q, hq⟩
    exact d_write I (by rw [e]; exact True.intro) hs he (dk_new hl hd (rel.put k rv) dd')
  · subst ey eH
    cases (show u = Value.ref b from ry)
    obtain ⟨z, hd, xs, rel, dd⟩ := dt_of I.hok e
    have hz : xs.length ≤ sizeLine := by rw [← Paired.length rel]; exact z
    have hl : (putK kvs k v).length ≤ sizeLine := by have := length_putK kvs k v; omega
    refine wpAny_setItem_heap (hsz := hz) (tupleKind_room_in1 hu) (key_of I.hok eb) dd fun h' dd' hs => h _ ?_
    obtain ⟨q, es, ep, hq, h2, h3, h4, _, h5⟩ := dd'
    refine d_write I (by rw [e]; exact True.intro) hs ⟨q, hq⟩ ⟨hl, hd, _, (rel.put k eb rv).keeps fun c ys ec => ?_, q, es, ep, hq, h2, h3, h4, h5⟩
    rw [upd_ne (ne_of ec e (fun z => nomatch z))]
    exact ec
end
section
variable {X : Cx} {pins : List (Addr × Obj)} {σ : St} {H : Hp} {s : Shared} {a : Addr} {kvs : List (Key × V)} {k : Key} {u : Value} {A : Around} {E : Value → Shared → Prop}
end
def NoSl (i : Expr) : Prop := ∀ ov iv, subscripted i false ov iv = operate [ov, iv] (getItem ov iv)
theorem subD_of {prog : Program} {w : World} {A : Around} {E : Value → Shared → Prop} {s : Shared} {env : Env} {value slice : Expr} {pos : Pos} {T id : String} {Q : Value → Shared → Prop}
    (hl : typeLookup (.type T) "__getitem__" = pure (some (.builtin id))) (hs : NoSl slice)
    (h : wpAny (model prog w) A (eval value env) (fun o s₁ => wpAny (model prog w) A (eval slice env) (fun i s₂ => s₂.TypeIs o T ∧ wpAny (model prog w) A (getItem o i) Q E s₂) E s₁) E s) :
    wpAny (model prog w) A (eval (.Subscript value slice pos) env) Q E s := by
  refine Subscript_ (wpAny_mono h (fun o s₁ h₁ => wpAny_mono h₁ (fun i s₂ h₂ => ?_) fun _ _ x => x) fun _ _ x => x)
  obtain ⟨hT, h₂⟩ := h₂
  unfold subscriptTail
  refine wpAny_bind ?_
  rw [getitemInPython_of_ne hT.not_modules]
  refine wpAny_bind (wpAny_specialOf hT hl ?_)
  have fin : wpAny (model prog w) A (subscripted slice false o i) (fun r s₃ => wpAny (model prog w) A (letTemporaryGo value o r >>= fun _ => pure r) Q E s₃) E s₂ := by
    rw [hs o i]
    exact wpAny_operating (wpAny_mono h₂ (fun r s₃ h₃ => wpAny_bind (wpAny_letTemporaryGo (wpAny_pure h₃))) fun _ _ x => x)
  first
    | exact wpAny_pure (wpAny_bind fin)
    | exact wpAny_bind (wpAny_pure (wpAny_bind fin))
    | exact wpAny_bind fin
theorem dict_typeIs {X : Cx} {pins : List (Addr × Obj)} {σ : St} {H : Hp} {s : Shared} {a : Addr} {y : V} {o : Option V} (I : Inv X pins σ H s) (g : DGet H a y o) : s.TypeIs (.ref a) "dict" := by
  rcases g with ⟨kvs, k, e, _, _⟩ | ⟨kvs, k, b, e, _, _, _⟩
  · obtain ⟨_, _, vs, _, dd⟩ := dk_rd I.hok e
    exact dd.typeIs
  · obtain ⟨_, _, xs, _, dd⟩ := dt_rd I.hok e
    exact dd.typeIs
def tDGet (td ty : TE) : TE := fun σ H Q => td σ H fun x H1 => ty σ H1 fun y H2 => ∃ a v, x = .ref a ∧ DGet H2 a y (some v) ∧ Q v H2
def tDIn (ty td : TE) : TE := fun σ H Q => ty σ H fun y H1 => td σ H1 fun x H2 => ∃ a o, x = .ref a ∧ DGet H2 a y o ∧ Q (.bl o.isSome) H2
def tDNotIn (ty td : TE) : TE := fun σ H Q => ty σ H fun y H1 => td σ H1 fun x H2 => ∃ a o, x = .ref a ∧ DGet H2 a y o ∧ Q (.bl (!o.isSome)) H2
def sDPut (td ty tv : TE) : TS := fun D σ H => tv σ H fun v H1 => td σ H1 fun x H2 => ty σ H2 fun y H3 => ∃ a H4, x = .ref a ∧ DPut H3 a y v H4 ∧ D.nx σ H4
section
variable {X : Cx} {o i e value : Expr} {pos pos' tpos : Pos} {td ty tv : TE}
theorem pe_dget (hu : X.A.units + 1 < cLine) (ho : PE X o td) (hi : PE X i ty) (hs : NoSl i) : PE X (.Subscript o i pos) (tDGet td ty) := by
  intro pins s σ H Q I h
  refine subD_of PySem.F.slot_dict_getitem.lookup hs (thn (ho pins s σ H _ I h) fun u s1 ⟨x, H1, I1, rx, q1⟩ => thn (hi pins s1 σ H1 _ I1 q1) fun iv s2 ⟨y, H2, I2, ry, a, v, ex, g, q2⟩ => ?_)
  subst ex
  obtain rfl : u = Value.ref a := rx
  exact ⟨dict_typeIs I2 g, d_getItem hu I2 g ry fun w' s3 I3 rw' => ⟨v, H2, I3, rw', q2⟩⟩
theorem pc_din (hu : X.A.units + 1 < cLine) (hi : PE X i ty) (ho : PE X o td) : PC X .In i o (tDIn ty td) := by
  intro pins s σ H Q I h
  refine thn (hi pins s σ H _ I h) fun iv s1 ⟨y, H1, I1, ry, q1⟩ => thn (ho pins s1 σ H1 _ I1 q1) fun u s2 ⟨x, H2, I2, rx, a, ov, ex, g, q2⟩ => ?_
  subst ex
  obtain rfl : u = Value.ref a := rx
  exact d_in hu I2 g ry fun s3 I3 => ⟨.bl ov.isSome, H2, I3, rfl, q2⟩
theorem pc_dnotin (hu : X.A.units + 1 < cLine) (hi : PE X i ty) (ho : PE X o td) : PC X .NotIn i o (tDNotIn ty td) := by
  intro pins s σ H Q I h
  refine thn (hi pins s σ H _ I h) fun iv s1 ⟨y, H1, I1, ry, q1⟩ => thn (ho pins s1 σ H1 _ I1 q1) fun u s2 ⟨x, H2, I2, rx, a, ov, ex, g, q2⟩ => ?_
  subst ex
  obtain rfl : u = Value.ref a := rx
  exact d_notIn hu I2 g ry fun s3 I3 => ⟨.bl (!ov.isSome), H2, I3, rfl, q2⟩
theorem ps_dput (hu : X.A.units + 1 < cLine) (ho : PE X o td) (hi : PE X i ty) (hv : PE X value tv) (hs : swapsWith value (some (.Subscript o i pos')) pos.line X.env = pure false) :
    PS X (.Assign [.Subscript o i pos'] value pos) (sDPut td ty tv) := by
  intro pins s σ H D I h
  refine wpAny_Assign_Subscript (thn (hv pins s σ H _ I h) fun r s1 ⟨v, H1, I1, rv, q1⟩ => thn (ho pins s1 σ H1 _ I1 q1) fun u s2 ⟨x, H2, I2, rx, q2⟩ => thn (hi pins s2 σ H2 _ I2 q2) fun iv s3 ⟨y, H3, I3, ry, a, H4, ex, g, q3⟩ => ?_) hs
  subst ex
  obtain rfl : u = Value.ref a := rx
  exact d_setItem hu I3 g ry rv fun s4 I4 => ⟨σ, H4, I4, q3⟩
end
theorem dk_empty {P : Program} {w : World} {H : Hp} (h : Heap) (hb : sysModules < h.objs.size) : ObjOk P w H (h.push { cls := .type "dict", data := .dict #[] }) h.objs.size (.dK []) :=
  ⟨Nat.zero_le _, beq_eq_false_iff_ne.mpr (Ne.symm (Nat.ne_of_lt hb)), [], .nil, Heap.DictOf.new h⟩
theorem dt_empty {P : Program} {w : World} {H : Hp} (h : Heap) (hb : sysModules < h.objs.size) : ObjOk P w H (h.push { cls := .type "dict", data := .dict #[] }) h.objs.size (.dT []) :=
  ⟨Nat.zero_le _, beq_eq_false_iff_ne.mpr (Ne.symm (Nat.ne_of_lt hb)), [], .nil, _, #[], 0, Heap.get?_push_size _ rfl, ⟨rfl, rfl, rfl⟩, rfl, rfl, List.nodup_nil⟩
def tDNewK : TE := fun _ H Q => ∀ p, H p = none → Q (.ref p) (upd H p (.dK []))
def tDNewT : TE := fun _ H Q => ∀ p, H p = none → Q (.ref p) (upd H p (.dT []))
section
variable {X : Cx} {pos : Pos}
theorem pe_dnewK : PE X (.Dict [] [] pos) tDNewK := fun pins s σ H Q I h =>
  wpAny_Dict_empty ⟨.ref s.heap.objs.size, _, I.laid (a := s.heap.objs.size) (o := .dK []) (t' := s.toks) (fun _ _ q => Heap.get?_push_of_some _ q) (Nat.le_refl _) (dk_empty s.heap I.big), rfl, h _ (I.hok.fresh (Nat.le_refl _))⟩
theorem pe_dnewT : PE X (.Dict [] [] pos) tDNewT := fun pins s σ H Q I h =>
  wpAny_Dict_empty ⟨.ref s.heap.objs.size, _, I.laid (a := s.heap.objs.size) (o := .dT []) (t' := s.toks) (fun _ _ q => Heap.get?_push_of_some _ q) (Nat.le_refl _) (dt_empty s.heap I.big), rfl, h _ (I.hok.fresh (Nat.le_refl _))⟩
end
def tPairs : List (TE × TE) → St → Hp → (List (V × V) → Hp → Prop) → Prop
  | [], _, H, Q => Q [] H
  | (tk, tv) :: r, σ, H, Q => tk σ H fun x H1 => tv σ H1 fun y H2 => tPairs r σ H2 fun ps H3 => Q ((x, y) :: ps) H3
structure M1 (X : Cx) (o : Expr) (m : Str) (apos : Pos) (e : Expr) (cpos : Pos) : Prop where
  base : attributeBase o m X.env (eval o X.env) = eval o X.env
  few : ((backTo cpos (starEach [e] X.env)).all (fun x => !x.1) && (backToKw cpos (keywordEach [] X.env)).all (fun x => x.1.isSome)
    && decide (([e] : List Expr).length + ([] : List Keyword).length + (if ([] : List Keyword).isEmpty then 0 else 1) < 30)) = true
  line : (apos.endLine == cpos.line) = true
  trees : backTo cpos (starEach [e] X.env) = [(false, eval e X.env)]
def IsD (H : Hp) (a : Addr) : Prop := (∃ kvs, Rd H a (.dK kvs)) ∨ ∃ kvs, Rd H a (.dT kvs)
theorem isD_at {X : Cx} {pins : List (Addr × Obj)} {σ : St} {H : Hp} {s : Shared} {a : Addr} (I : Inv X pins σ H s) (d : IsD H a) :
    s.TypeIs (.ref a) "dict" ∧ (∀ b, Value.ref a = .ref b → ∃ ob, s.heap.get? b = some ob ∧ ob.dict = none) ∧ (a == sysModules) = false := by
  rcases d with ⟨kvs, e⟩ | ⟨kvs, e⟩
  · obtain ⟨_, hd, vs, _, dd⟩ := dk_rd I.hok e
    refine ⟨dd.typeIs, fun b q => ?_, hd⟩
    cases q
    obtain ⟨ob, _, _, h1, h2, _⟩ := dd
    exact ⟨ob, h1, h2.2.1⟩
  · obtain ⟨_, hd, xs, _, dd⟩ := dt_rd I.hok e
    refine ⟨dd.typeIs, fun b q => ?_, hd⟩
    cases q
    obtain ⟨ob, _, _, h1, h2, _⟩ := dd
    exact ⟨ob, h1, h2.2.1⟩
section
variable {X : Cx} {pins : List (Addr × Obj)} {σ : St} {H : Hp} {s : Shared} {a : Addr} {y d : V} {u r : Value} {o : Option V} {A : Around} {E : Value → Shared → Prop}
theorem d_get1 {Q : Value → Shared → Prop} (hu : A.units + 1 < cLine) (I : Inv X pins σ H s) (g : DGet H a y o) (ry : RelV y u) (h : ∀ w' s', Inv X pins σ H s' → RelV (o.getD .non) w' → Q w' s') :
    wpAny (model X.prog X.w) A (call (.builtin "dict.get") [.ref a, u]) Q E s := by
  rcases g with ⟨kvs, k, e, ey, l⟩ | ⟨kvs, k, b, e, ey, eb, l⟩
  · subst ey
    obtain ⟨z, hd, vs, rel, dd⟩ := dk_rd I.hok e
    refine call_meetsIn PySem.F.slot_dict_get dd.typeIs PySem.F.entry_dict_get (PySem.F.args_dict_get_2 _ _) (meets_dict_get (mixKind X.prog X.w) a (kV_is ry) hd) ⟨_, dd.mapOf, h _ _ (I.tok _) ?_⟩
    rw [l]
    exact (rel.val k).getD rfl
  · subst ey
    cases (show u = Value.ref b from ry)
    obtain ⟨z, hd, xs, rel, dd⟩ := dt_rd I.hok e
    refine call_meetsIn PySem.F.slot_dict_get dd.typeIs PySem.F.entry_dict_get (PySem.F.args_dict_get_2 _ _) (meetsH_dict_get (tupleKind (mixKind X.prog X.w)) a b hd) ⟨tupleKind_room_in1 hu, k, xs, key_of I.hok eb, dd, h _ _ (I.tok _) ?_⟩
    rw [l]
    exact (rel.val k).getD rfl
theorem d_get2 {Q : Value → Shared → Prop} (hu : A.units + 1 < cLine) (I : Inv X pins σ H s) (g : DGet H a y o) (ry : RelV y u) (rd : RelV d r) (h : ∀ w' s', Inv X pins σ H s' → RelV (o.getD d) w' → Q w' s') :
    wpAny (model X.prog X.w) A (call (.builtin "dict.get") [.ref a, u, r]) Q E s := by
  rcases g with ⟨kvs, k, e, ey, l⟩ | ⟨kvs, k, b, e, ey, eb, l⟩
  · subst ey
    obtain ⟨z, hd, vs, rel, dd⟩ := dk_rd I.hok e
    refine call_meetsIn PySem.F.slot_dict_get dd.typeIs PySem.F.entry_dict_get (PySem.F.args_dict_get_3 _ _ _) (meets_dict_get_default (mixKind X.prog X.w) a (kV_is ry) hd r) ⟨_, dd.mapOf, h _ _ (I.tok _) ?_⟩
    rw [l]
    exact (rel.val k).getD rd
  · subst ey
    cases (show u = Value.ref b from ry)
    obtain ⟨z, hd, xs, rel, dd⟩ := dt_rd I.hok e
    refine call_meetsIn PySem.F.slot_dict_get dd.typeIs PySem.F.entry_dict_get (PySem.F.args_dict_get_3 _ _ _) (meetsH_dict_get_default (tupleKind (mixKind X.prog X.w)) a b hd r) ⟨tupleKind_room_in1 hu, k, xs, key_of I.hok eb, dd, h _ _ (I.tok _) ?_⟩
    rw [l]
    exact (rel.val k).getD rd
end
def tDGet1 (td ty : TE) : TE := fun σ H Q => td σ H fun x H1 => ∃ a, x = .ref a ∧ IsD H1 a ∧ ty σ H1 fun y H2 => ∃ o, DGet H2 a y o ∧ Q (o.getD .non) H2
section
variable {X : Cx} {o e f : Expr} {apos cpos : Pos} {td ty tx : TE}
theorem pe_dget1 (hu : X.A.units + 1 < cLine) (ho : PE X o td) (he : PE X e ty) (m : M1 X o "get" apos e cpos) : PE X (.Call (.Attribute o "get" apos) [e] [] cpos) (tDGet1 td ty) := by
  intro pins s σ H Q I h
  refine wpAny_Call_method m.base m.few m.line PySem.F.plainAttrs_dict PySem.F.slot_dict_get PySem.F.type_dict_get (thn (ho pins s σ H _ I h) fun u s1 ⟨x, H1, I1, rx, a, ex, d, q1⟩ => ?_)
  subst ex
  obtain rfl : u = Value.ref a := rx
  obtain ⟨t1, t2, _⟩ := isD_at I1 d
  refine ⟨t1, t2, ?_⟩
  rw [m.trees]
  refine Calls.callWith_builtin rfl (Calls.evalArgs_plain (Calls.spliced_cons (thn (he pins s1 σ H1 _ I1 q1) fun iv s2 ⟨y, H2, I2, ry, ov, g, q2⟩ => Calls.spliced_nil ?_)))
  exact d_get1 hu I2 g ry fun w' s3 I3 rw' => ⟨_, H2, I3, rw', q2⟩
end
section
variable {X : Cx} {pins : List (Addr × Obj)} {σ : St} {H : Hp} {s : Shared} {a : Addr} {kvs : List (Key × V)} {A : Around} {E : Value → Shared → Prop}
end
section
variable {X : Cx} {pins : List (Addr × Obj)} {σ : St} {H : Hp} {s : Shared} {a : Addr} {y : V} {u : Value} {A : Around} {E : Value → Shared → Prop}
end
section
variable {X : Cx}
end
section
variable {κ : Type} [DecidableEq κ]
end
end L2
namespace L3
open PySem PySem.Spec PyProof.Rows L2
theorem bt_len : bootBuiltins "len" = some (.builtin "len") := by decide +kernel
theorem bt_min : bootBuiltins "min" = some (.builtin "min") := by decide +kernel
theorem bt_max : bootBuiltins "max" = some (.builtin "max") := by decide +kernel
theorem bt_isinstance : bootBuiltins "isinstance" = some (.builtin "isinstance") := by decide +kernel
theorem bt_int : bootBuiltins "int" = some (.type "int") := by decide +kernel
theorem bt_str : bootBuiltins "str" = some (.type "str") := by decide +kernel
theorem bt_bool : bootBuiltins "bool" = some (.type "bool") := by decide +kernel
theorem bt_list : bootBuiltins "list" = some (.type "list") := by decide +kernel
theorem bt_tuple : bootBuiltins "tuple" = some (.type "tuple") := by decide +kernel
abbrev cl (z : Str) : List Nat := z.cps.toList
theorem str_ext {a b : Str} (h : cl a = cl b) : a = b := by
  cases a; cases b; congr 1; exact Array.ext' h
theorem cl_append (a b : Str) : cl (a ++ b) = cl a ++ cl b := by
  show (a.cps ++ b.cps).toList = _
  rw [Array.toList_append]
theorem cl_length (a : Str) : (cl a).length = a.length := by
  show a.cps.toList.length = a.cps.size
  rw [Array.length_toList]
theorem cl_slice (z : Str) (lo hi : Option Int) : cl (Txt.slice z lo hi) = ((cl z).drop (HT.sIx z.length 0 lo)).take (HT.sIx z.length z.length hi - HT.sIx z.length 0 lo) := by
  have e : Builtin.Str.strSliceIndices lo hi 1 z.length = sliceRange (sliceBounds lo hi none z.length).1 (sliceBounds lo hi none z.length).2.1 1 := by
    cases lo <;> cases hi <;> rfl
  obtain ⟨h1, h2, _⟩ := slice_bounds lo hi z.length
  have p : (Builtin.Str.strSliceIndices lo hi 1 z.length).filterMap (z.cps[·]?) = ((cl z).drop (HT.sIx z.length 0 lo)).take (HT.sIx z.length z.length hi - HT.sIx z.length 0 lo) := by
    rw [e, h1, h2, sliceRange_one, pick_run]
  unfold Txt.slice
  split
  · rename_i hc
    have hl : (Builtin.Str.strSliceIndices lo hi 1 z.length).length = z.length := by
      simpa using hc
    rw [e, h1, h2, sliceRange_one, List.length_map, List.length_range] at hl
    have b1 := HT.sIx_le z.length 0 (Nat.zero_le _) lo
    have b2 := HT.sIx_le z.length z.length (Nat.le_refl _) hi
    by_cases h0 : z.length = 0
    · have : cl z = [] := List.eq_nil_of_length_eq_zero (by rw [cl_length]; exact h0)
      rw [this]; simp
    · have a0 : HT.sIx z.length 0 lo = 0 := by omega
      have aN : HT.sIx z.length z.length hi = z.length := by omega
      rw [a0, aN, List.drop_zero, Nat.sub_zero, ← cl_length, List.take_length]
  · exact p
section
variable {X : Cx}
def rSlS : V → Option Int → Option Int → Hp → VK → Prop := fun x lo hi H Q => ∃ z, x = .str z ∧ z.length ≤ sizeLine ∧ Q (.str (Txt.slice z lo hi)) H
theorem part_of {v : Value} {o : Option Int} (p : IsPart v o) : ∃ l : Option (Int × Tok), v = partValue l ∧ l.map (·.1) = o := by
  cases p with
  | none => exact ⟨none, rfl, rfl⟩
  | int i t => exact ⟨some (i, t), rfl, rfl⟩
theorem sl_str : SlR X rSlS := by
  intro pins s σ H x v vl vu lo hi sl Q I rx hs pl pu h
  obtain ⟨z, rfl, hz, q⟩ := h
  obtain ⟨t, rfl⟩ := rx
  obtain ⟨l, rfl, rfl⟩ := part_of pl
  obtain ⟨u, rfl, rfl⟩ := part_of pu
  refine ⟨"str", _, PySem.F.slot_str_getitem.lookup, typeIs_str _ _ _, ?_⟩
  refine wpAny_getItem_str_slice (l := l) (u := u) (st := none) hs rfl ?_
  refine post_val_or_str ⟨Nat.le_trans (Txt.slice_le z _ _) hz, fun t' k => ?_⟩
  exact ⟨.str (Txt.slice z (l.map (·.1)) (u.map (·.1))), H, I.tok _, ⟨_, rfl⟩, q⟩
theorem pe_ty {x : Str} {T : String} {pos : Pos} (hg : Gl X x) (hm : X.mg x = none) (hv : bootBuiltins x = some (.type T)) (hn : x ≠ "__name__" := by decide) (hdb : (x == ("__debug__" : Str)) = false := by decide) :
    PE X (.Name x pos) (tC (.ty T)) := pe_bltn (v := .ty T) hg hm hv rfl hn hdb
theorem call_isinst : CallR X (.builtin "isinstance") (fun xs H Q => ∃ x T t b, xs = [x, .ty T] ∧ TyOf X.K H x t ∧ PySem.W.kitOne X.K t (.type T) = some b ∧ Q (.bl b) H) := by
  intro pins s σ H xs us Q I r h
  obtain ⟨x, T, t, b, rfl, ty, e, q⟩ := h
  obtain ⟨u, w', rfl, rx, rt⟩ := vals2 r
  cases rt
  exact isinst_ok I rx ty e fun tk => ⟨.bl b, H, I.tok _, rfl, q⟩
theorem is_str {K : PySem.W.Frag} : PySem.W.kitOne K (.type "str") (.type "str") = some true := rfl
def Cal (P : Program) (w : World) (K : PySem.W.Frag) (mg : Str → Option Value) (base : Heap) (x : Str) (ps : List Str) (k : Nat) (sp : Sp) : Prop :=
  ∃ f fd, FnOk P w K mg base CX0 k f fd ps sp ∧ Binds K fd ps [] ∧ PySem.W.keepIn K (.ref f) = true ∧ mg x = some (.ref f)
def tFn (sp : Sp) (t : TA) : TE := fun σ H Q => t σ H fun vs H1 => sp vs H1 Q E0
theorem pe_fn {x : Str} {ps : List Str} {k k' : Nat} {sp : Sp} {p pos : Pos} {e : Expr} {es : List Expr} {t : TA} (C : Cal X.prog X.w X.K X.mg X.base x ps k sp) (hr : Room k' X.A) (hk : k ≤ k') (hg : Gl X x)
    (ha : PA X (e :: es) t) (hdb : (x == ("__debug__" : Str)) = false := by decide) (he : starEach (e :: es) X.env = (false, eval e X.env) :: starEach es X.env := by rfl) (hpl : (backTo pos (starEach es X.env)).any (·.1) = false := by rfl) :
    PE X (.Call (.Name x p) (e :: es) [] pos) (tFn sp t) := by
  obtain ⟨f, fd, F, b, kp, hm⟩ := C
  intro pins s σ H Q I h
  refine wpAny_Call_Name_kw (ld_glob I hg hm ?_ hdb)
  refine PySem.W.callWith_K (h₀ := X.base) I.ok.mod.kin kp (thn (ha pos pins s σ H _ I h) fun us s1 ⟨vs, H1, I1, r, q⟩ => ⟨I1.kIn, ?_⟩) he hpl
  exact run_fn (dvs := []) F (hr.mono hk) b .nil pass0 I1 r (by rw [List.append_nil]; exact q)
end
section
variable {X : Cx}
def tMid (t u : TS) : TS := fun D σ H => ∃ M : L2.St → Hp → Prop, t { D with nx := M } σ H ∧ ∀ σ' H', M σ' H' → u D σ' H'
theorem pss_mid {st : Stmt} {rest : List Stmt} {t u : TS} (h1 : PS X st t) (h2 : PSs X rest u) : PSs X (st :: rest) (tMid t u) := by
  intro pins s σ H D I h
  obtain ⟨M, ht, hu⟩ := h
  refine wpAny_execs_cons (thn (h1 pins s σ H { D with nx := M } I ht) fun f s1 q => ?_)
  cases f with
  | next =>
    obtain ⟨σ', H', I', q⟩ := q
    exact h2 pins s1 σ' H' D I' (hu σ' H' q)
  | ret v => exact q
  | brk => exact q
  | cont => exact q
def tAbs (t : TE) : TE := fun σ H Q => ∃ P : V → Hp → Prop, t σ H P ∧ ∀ v H', P v H' → Q v H'
theorem pe_abs {e : Expr} {t : TE} (h : PE X e t) : PE X e (tAbs t) := by
  intro pins s σ H Q I hw
  obtain ⟨P, ht, hq⟩ := hw
  exact thn (h pins s σ H P I ht) fun u s1 ⟨v, H1, I1, r1, q1⟩ => ⟨v, H1, I1, r1, hq v H1 q1⟩
def rPick (K : PySem.W.Frag) : R2 := fun x y H Q => ∃ p xs i, x = .ref p ∧ y = .int i ∧ SqL K H p xs ∧ 0 ≤ i ∧ i < xs.length ∧ ∃ W : V → Prop, (∀ v ∈ xs, W v) ∧ ∀ v, W v → Q v H
theorem ix_pick : IxR X (rPick X.K) := by
  intro value slice pins s σ H x y v u Q I rx ry h hs
  obtain ⟨p, xs, i, rfl, rfl, hq, h0, h1, W, hW, q⟩ := h
  obtain ⟨n, rfl⟩ := Int.eq_ofNat_of_zero_le h0
  have hn : n < xs.length := by omega
  exact ix_list value slice pins s σ H _ _ v u Q I rx ry ⟨p, xs, _, xs[n], rfl, rfl, hq, atI_nat (by rw [List.getElem?_eq_getElem hn]), q _ (hW _ (List.getElem_mem hn))⟩ hs
end
theorem pz {j : Int} (h : decide (0 < j) = true := by decide) : 0 < j := of_decide_eq_true h
theorem iteD {c A B : Prop} [Decidable c] (hc : ¬ c) (h : B) : if decide c = true then A else B := by
  rw [decide_eq_false hc]
  exact iteF h
theorem iteDT {c A B : Prop} [Decidable c] (hc : c) (h : A) : if decide c = true then A else B := by
  rw [decide_eq_true hc]
  exact iteT h
theorem iteDd {c A B : Prop} [Decidable c] (h1 : c → A) (h2 : ¬ c → B) : if decide c = true then A else B := by
  by_cases h : c
  · exact iteDT h (h1 h)
  · exact iteD h (h2 h)
theorem iteNd {c A B : Prop} [Decidable c] (h1 : ¬ c → A) (h2 : c → B) : if (!decide c) = true then A else B := by
  by_cases h : c
  · rw [decide_eq_true h]; exact iteF (h2 h)
  · rw [decide_eq_false h]; exact iteT (h1 h)
theorem same_new {H : Hp} {p : Addr} (h : H p = none) (o : HO) : Same H (upd H p o) := fun b u q => by rw [upd_ne (ne_of_none q h)]; exact q
theorem at_mem {α : Type} {xs : List α} {i : Int} (h0 : 0 ≤ i) (h1 : i < xs.length) : ∃ v, atI xs i = some v ∧ v ∈ xs := by
  obtain ⟨n, rfl⟩ := Int.eq_ofNat_of_zero_le h0
  have hn : n < xs.length := by omega
  exact ⟨xs[n], atI_nat (by rw [List.getElem?_eq_getElem hn]), List.getElem_mem hn⟩
theorem at_some {α : Type} {xs : List α} {i : Int} (h0 : 0 ≤ i) (h1 : i < xs.length) : ∃ v, atI xs i = some v ∧ xs[i.toNat]? = some v := by
  obtain ⟨n, rfl⟩ := Int.eq_ofNat_of_zero_le h0
  have hn : n < xs.length := by omega
  exact ⟨xs[n], atI_nat (by rw [List.getElem?_eq_getElem hn]), by simp [hn]⟩
theorem szl {n : Nat} (h : n ≤ 100000) : n ≤ sizeLine := Nat.le_trans h (by rw [sizeLine_eq]; decide)
end L3
namespace L3
open PySem PySem.Spec PyProof.Rows L2 PySem.SeqAt
inductive D where
  | non | bl (b : Bool) | int (i : Int) | str (x : Str) | tup (xs : List D) | lst (xs : List D)
mutual
def Rep (K : PySem.W.Frag) (H : Hp) : D → V → Prop
  | .non, v => v = .non
  | .bl b, v => v = .bl b
  | .int i, v => v = .int i
  | .str x, v => v = .str x
  | .tup ds, v => ∃ a xs, v = .ref a ∧ SqT K H a xs ∧ Reps K H ds xs
  | .lst ds, v => ∃ a xs, v = .ref a ∧ SqL K H a xs ∧ Reps K H ds xs
def Reps (K : PySem.W.Frag) (H : Hp) : List D → List V → Prop
  | [], vs => vs = []
  | d :: ds, vs => ∃ v r, vs = v :: r ∧ Rep K H d v ∧ Reps K H ds r
end
theorem Same.seqT {K : PySem.W.Frag} {H H' : Hp} {a : Addr} {xs : List V} (e : Same H H') (h : SqT K H a xs) : SqT K H' a xs := by
  rcases h with (h | ⟨o, h⟩) | h
  · exact .inl (.inl (e _ _ h))
  · exact .inl (.inr ⟨o, e _ _ h⟩)
  · exact .inr h
mutual
theorem Rep.mono {K : PySem.W.Frag} {H H' : Hp} (g : Same H H') : ∀ (d : D) (v : V), Rep K H d v → Rep K H' d v
  | .non, _, h => by unfold Rep at h ⊢; exact h
  | .bl _, _, h => by unfold Rep at h ⊢; exact h
  | .int _, _, h => by unfold Rep at h ⊢; exact h
  | .str _, _, h => by unfold Rep at h ⊢; exact h
  | .tup ds, _, h => by
    unfold Rep at h ⊢
    obtain ⟨a, xs, e, q, r⟩ := h
    exact ⟨a, xs, e, Same.seqT g q, Reps.mono g ds xs r⟩
  | .lst ds, _, h => by
    unfold Rep at h ⊢
    obtain ⟨a, xs, e, q, r⟩ := h
    exact ⟨a, xs, e, g.seq q, Reps.mono g ds xs r⟩
theorem Reps.mono {K : PySem.W.Frag} {H H' : Hp} (g : Same H H') : ∀ (ds : List D) (vs : List V), Reps K H ds vs → Reps K H' ds vs
  | [], _, h => by unfold Reps at h ⊢; exact h
  | d :: ds, _, h => by
    unfold Reps at h ⊢
    obtain ⟨v, r, e, q, t⟩ := h
    exact ⟨v, r, e, Rep.mono g d v q, Reps.mono g ds r t⟩
end
theorem Reps.nil {K : PySem.W.Frag} {H : Hp} : Reps K H [] [] := by unfold Reps; rfl
theorem Reps.cons {K : PySem.W.Frag} {H : Hp} {d : D} {v : V} {ds : List D} {vs : List V} (h : Rep K H d v) (t : Reps K H ds vs) : Reps K H (d :: ds) (v :: vs) := by
  unfold Reps; exact ⟨v, vs, rfl, h, t⟩
theorem Reps.inv {K : PySem.W.Frag} {H : Hp} {d : D} {ds : List D} {vs : List V} (h : Reps K H (d :: ds) vs) : ∃ v r, vs = v :: r ∧ Rep K H d v ∧ Reps K H ds r := by
  unfold Reps at h; exact h
theorem Reps.inv0 {K : PySem.W.Frag} {H : Hp} {vs : List V} (h : Reps K H [] vs) : vs = [] := by
  unfold Reps at h; exact h
theorem Reps.length {K : PySem.W.Frag} {H : Hp} : ∀ {ds : List D} {vs : List V}, Reps K H ds vs → ds.length = vs.length
  | [], _, h => by rw [h.inv0]; rfl
  | d :: ds, _, h => by
    obtain ⟨v, r, rfl, _, t⟩ := h.inv
    rw [List.length_cons, List.length_cons, Reps.length t]
mutual
def eqD : D → D → Bool
  | .non, .non => true
  | .bl a, .bl b => a == b
  | .bl a, .int b => (if a then 1 else 0) == b
  | .int a, .bl b => a == (if b then 1 else 0)
  | .int a, .int b => a == b
  | .str a, .str b => a == b
  | .tup xs, .tup ys => eqDs xs ys
  | .lst xs, .lst ys => eqDs xs ys
  | _, _ => false
def eqDs : List D → List D → Bool
  | [], [] => true
  | x :: xs, y :: ys => eqD x y && eqDs xs ys
  | _, _ => false
end
mutual
def deep : D → Nat
  | .tup xs => deeps xs + 1
  | .lst xs => deeps xs + 1
  | _ => 0
def deeps : List D → Nat
  | [] => 0
  | x :: xs => max (deep x) (deeps xs)
end
mutual
theorem eqD_refl : ∀ d : D, eqD d d = true
  | .non => by simp [eqD]
  | .bl b => by simp [eqD]
  | .int i => by simp [eqD]
  | .str x => by simp [eqD]
  | .tup xs => by rw [eqD]; exact eqDs_refl xs
  | .lst xs => by rw [eqD]; exact eqDs_refl xs
theorem eqDs_refl : ∀ xs : List D, eqDs xs xs = true
  | [] => by simp [eqDs]
  | x :: xs => by rw [eqDs, eqD_refl x, eqDs_refl xs]; rfl
end
mutual
def noB : D → Bool
  | .bl _ => false
  | .tup xs => noBs xs
  | .lst xs => noBs xs
  | _ => true
def noBs : List D → Bool
  | [] => true
  | x :: xs => noB x && noBs xs
end
mutual
theorem eqD_eq : ∀ d e : D, noB d = true → noB e = true → eqD d e = true → d = e
  | .non, e, _, h2, h => by cases e <;> simp_all [eqD]
  | .bl b, e, h1, _, _ => by simp [noB] at h1
  | .int i, e, _, h2, h => by cases e <;> simp_all [eqD, noB]
  | .str x, e, _, h2, h => by cases e <;> simp_all [eqD]
  | .tup xs, e, h1, h2, h => by
    cases e <;> simp only [eqD, noB, Bool.false_eq_true] at h1 h2 h
    rw [eqDs_eq _ _ h1 h2 h]
  | .lst xs, e, h1, h2, h => by
    cases e <;> simp only [eqD, noB, Bool.false_eq_true] at h1 h2 h
    rw [eqDs_eq _ _ h1 h2 h]
theorem eqDs_eq : ∀ xs ys : List D, noBs xs = true → noBs ys = true → eqDs xs ys = true → xs = ys
  | [], ys, _, _, h => by cases ys <;> simp_all [eqDs]
  | x :: xs, ys, h1, h2, h => by
    cases ys with
    | nil => simp [eqDs] at h
    | cons y ys =>
      simp only [eqDs, noBs, Bool.and_eq_true] at h1 h2 h
      rw [eqD_eq x y h1.1 h2.1 h.1, eqDs_eq xs ys h1.2 h2.2 h.2]
end
def pickEq (xs ys : List D) (j : Nat) : Bool := match xs[j]?, ys[j]? with
  | some x, some y => eqD x y
  | _, _ => false
theorem eqDs_all : ∀ xs ys : List D, eqDs xs ys = ((List.range (min xs.length ys.length)).all (pickEq xs ys) && (xs.length == ys.length))
  | [], [] => by simp [eqDs]
  | [], y :: ys => by simp [eqDs]
  | x :: xs, [] => by simp [eqDs]
  | x :: xs, y :: ys => by
    have ih := eqDs_all xs ys
    have e : min (x :: xs).length (y :: ys).length = min xs.length ys.length + 1 := by simp only [List.length_cons]; omega
    have p : pickEq (x :: xs) (y :: ys) ∘ Nat.succ = pickEq xs ys := by
      funext j; simp [pickEq]
    rw [eqDs, e, List.range_succ_eq_map, List.all_cons, List.all_map, p, ih]
    have q : pickEq (x :: xs) (y :: ys) 0 = eqD x y := by simp [pickEq]
    have l : ((x :: xs).length == (y :: ys).length) = (xs.length == ys.length) := by
      simp only [List.length_cons]
      by_cases h : xs.length = ys.length <;> simp [h]
    rw [q, l, Bool.and_assoc]
section
variable {X : Cx} {pins : List (Addr × Obj)} {σ : L2.St} {H : Hp} {s : Shared}
mutual
theorem Rep.inj (I : Inv X pins σ H s) : ∀ (d e : D) (v : V), Rep X.K H d v → Rep X.K H e v → d = e
  | .non, e, v, h, k => by unfold Rep at h; subst h; cases e <;> simp [Rep] at k <;> rfl
  | .bl b, e, v, h, k => by unfold Rep at h; subst h; cases e <;> simp [Rep] at k; rw [k]
  | .int i, e, v, h, k => by unfold Rep at h; subst h; cases e <;> simp [Rep] at k; rw [k]
  | .str x, e, v, h, k => by unfold Rep at h; subst h; cases e <;> simp [Rep] at k; rw [k]
  | .tup ds, e, v, h, k => by
    unfold Rep at h
    obtain ⟨a, xs, rfl, q, r⟩ := h
    cases e with
    | tup es =>
      unfold Rep at k
      obtain ⟨b, ys, e1, q2, r2⟩ := k
      cases e1
      have := I.tuple_inj q q2
      subst this
      rw [Reps.inj I ds es xs r r2]
    | lst es =>
      unfold Rep at k
      obtain ⟨b, ys, e1, q2, r2⟩ := k
      cases e1
      obtain ⟨i1, _, t1, _⟩ := I.tuple q
      obtain ⟨i2, _, t2, _⟩ := I.list q2
      exact absurd rfl (ne_of_list_tuple t2.isList (let ⟨o, h1, h2, n, h3⟩ := t1; ⟨o, h1, h2, n, h3⟩))
    | _ => simp [Rep] at k
  | .lst ds, e, v, h, k => by
    unfold Rep at h
    obtain ⟨a, xs, rfl, q, r⟩ := h
    cases e with
    | lst es =>
      unfold Rep at k
      obtain ⟨b, ys, e1, q2, r2⟩ := k
      cases e1
      have := I.list_inj q q2
      subst this
      rw [Reps.inj I ds es xs r r2]
    | tup es =>
      unfold Rep at k
      obtain ⟨b, ys, e1, q2, r2⟩ := k
      cases e1
      obtain ⟨i1, _, t1, _⟩ := I.tuple q2
      obtain ⟨i2, _, t2, _⟩ := I.list q
      exact absurd rfl (ne_of_list_tuple t2.isList (let ⟨o, h1, h2, n, h3⟩ := t1; ⟨o, h1, h2, n, h3⟩))
    | _ => simp [Rep] at k
theorem Reps.inj (I : Inv X pins σ H s) : ∀ (ds es : List D) (vs : List V), Reps X.K H ds vs → Reps X.K H es vs → ds = es
  | [], es, vs, h, k => by
    rw [h.inv0] at k
    cases es with
    | nil => rfl
    | cons e es => obtain ⟨_, _, z, _⟩ := k.inv; cases z
  | d :: ds, es, vs, h, k => by
    obtain ⟨v, r, rfl, q, t⟩ := h.inv
    cases es with
    | nil => have z := k.inv0; cases z
    | cons e es =>
      obtain ⟨_, _, z, q2, t2⟩ := k.inv
      cases z
      rw [Rep.inj I d e v q q2, Reps.inj I ds es r t t2]
end
end
end L3
namespace L3
open PySem PySem.Spec PyProof.Rows L2 PySem.SeqAt
section
variable {X : Cx} {pins : List (Addr × Obj)} {σ : L2.St} {H : Hp} {s : Shared} {A : Around}
theorem in1_units (A : Around) : A.in1.units = A.units + 1 := rfl
abbrev Elts (A : Around) (s : Shared) (xs ys : List V) (ds es : List D) : Prop :=
  ∀ us ws, Vals xs us → Vals ys ws → ∀ (j : Nat) v u, us[j]? = some v → ws[j]? = some u → EqAt A s v u (pickEq ds es j)
theorem rc_tup {a b : Addr} {xs ys : List V} {ds es : List D} (I : Inv X pins σ H s) (q : SqT X.K H a xs) (r : Reps X.K H ds xs) (q2 : SqT X.K H b ys) (r2 : Reps X.K H es ys) (hu : A.units < cLine) (he : Elts A.in1 s xs ys ds es) :
    RcAt A s (.ref a) (.ref b) (eqDs ds es) ∧ RcNeAt A s (.ref a) (.ref b) (!eqDs ds es) := by
  obtain ⟨us, rv, t1, _⟩ := I.tuple q
  obtain ⟨ws, rw', t2, _⟩ := I.tuple q2
  have l1 : us.toArray.size = ds.length := by rw [List.size_toArray, ← rv.length, r.length]
  have l2 : ws.toArray.size = es.length := by rw [List.size_toArray, ← rw'.length, r2.length]
  have el : ∀ j (h1 : j < us.toArray.size) (h2 : j < ws.toArray.size), EqAt A.in1 s us.toArray[j] ws.toArray[j] (pickEq ds es j) := fun j h1 h2 =>
    he us ws rv rw' j _ _ (by simp at h1 ⊢) (by simp at h2 ⊢)
  have e := RcAt.tuples (A := A) (s := s) (l := a) (b := b) t1 t2 hu el
  have n := RcNeAt.tuples (A := A) (s := s) (l := a) (b := b) t1 t2 hu el
  rw [l1, l2, ← eqDs_all] at e n
  exact ⟨e, n⟩
theorem rc_lst {a b : Addr} {xs ys : List V} {ds es : List D} (I : Inv X pins σ H s) (q : SqL X.K H a xs) (r : Reps X.K H ds xs) (q2 : SqL X.K H b ys) (r2 : Reps X.K H es ys) (hu : A.units < cLine) (he : Elts A.in1 s xs ys ds es) :
    RcAt A s (.ref a) (.ref b) (eqDs ds es) ∧ RcNeAt A s (.ref a) (.ref b) (!eqDs ds es) := by
  obtain ⟨us, rv, t1, _⟩ := I.list q
  obtain ⟨ws, rw', t2, _⟩ := I.list q2
  have l1 : us.toArray.size = ds.length := by rw [List.size_toArray, ← rv.length, r.length]
  have l2 : ws.toArray.size = es.length := by rw [List.size_toArray, ← rw'.length, r2.length]
  have el : ∀ j (h1 : j < us.toArray.size) (h2 : j < ws.toArray.size), EqAt A.in1 s us.toArray[j] ws.toArray[j] (pickEq ds es j) := fun j h1 h2 =>
    he us ws rv rw' j _ _ (by simp at h1 ⊢) (by simp at h2 ⊢)
  by_cases hl : ds.length = es.length
  · have e := RcAt.lists (A := A) (s := s) (l := a) (b := b) t1.isList t2.isList (by omega) hu el
    have n := RcNeAt.lists (A := A) (s := s) (l := a) (b := b) t1.isList t2.isList (by omega) hu el
    have z : eqDs ds es = (List.range ds.length).all (pickEq ds es) := by
      rw [eqDs_all, hl]; simp
    rw [l1, ← z] at e n
    exact ⟨e, n⟩
  · have hs : (us.toArray.size != ws.toArray.size) = true := by rw [l1, l2]; simpa using hl
    have e := RcAt.lists_lengths (A := A) (s := s) (l := a) (b := b) t1.isList t2.isList hs hu
    have n := RcNeAt.lists_lengths (A := A) (s := s) (l := a) (b := b) t1.isList t2.isList hs hu
    have z : eqDs ds es = false := by
      rw [eqDs_all]; simp [hl]
    rw [z]
    exact ⟨e, n⟩
mutual
theorem eqAtD (I : Inv X pins σ H s) : ∀ (d e : D) (A : Around) (v u : V) (v' u' : Value), Rep X.K H d v → Rep X.K H e u → RelV v v' → RelV u u' → A.units + deep d < cLine → EqAt A s v' u' (eqD d e)
  | .non, e, A, v, u, v', u', hd, he, rv, ru, hu => by
    unfold Rep at hd; subst hd; cases rv
    cases e <;> unfold Rep at he
    · subst he; cases ru; exact EqAt.same _
    · subst he; cases ru; exact EqAt.none_bool _
    · subst he; obtain ⟨t, rfl⟩ := ru; exact EqAt.none_int _ _
    · subst he; obtain ⟨t, rfl⟩ := ru; exact EqAt.none_str _ _
    · obtain ⟨a, xs, rfl, q, _⟩ := he; cases ru; obtain ⟨_, _, t, _⟩ := I.tuple q; exact EqAt.none_tuple t (by omega)
    · obtain ⟨a, xs, rfl, q, _⟩ := he; cases ru; obtain ⟨_, _, t, _⟩ := I.list q; exact EqAt.none_list t.isList (by omega)
  | .bl b, e, A, v, u, v', u', hd, he, rv, ru, hu => by
    unfold Rep at hd; subst hd; cases rv
    cases e <;> unfold Rep at he
    · subst he; cases ru; exact EqAt.bool_none _
    · subst he; cases ru; exact EqAt.bool_bool _ _
    · subst he; obtain ⟨t, rfl⟩ := ru; exact EqAt.bool_int _ _ _
    · subst he; obtain ⟨t, rfl⟩ := ru; exact EqAt.bool_str _ _ _
    · obtain ⟨a, xs, rfl, q, _⟩ := he; cases ru; obtain ⟨_, _, t, _⟩ := I.tuple q; exact EqAt.bool_tuple _ t (by omega)
    · obtain ⟨a, xs, rfl, q, _⟩ := he; cases ru; obtain ⟨_, _, t, _⟩ := I.list q; exact EqAt.bool_list _ t.isList (by omega)
  | .int i, e, A, v, u, v', u', hd, he, rv, ru, hu => by
    unfold Rep at hd; subst hd; obtain ⟨t0, rfl⟩ := rv
    cases e <;> unfold Rep at he
    · subst he; cases ru; exact EqAt.int_none _ _
    · subst he; cases ru; exact EqAt.int_bool _ _ _
    · subst he; obtain ⟨t, rfl⟩ := ru; exact EqAt.int_int _ _ _ _
    · subst he; obtain ⟨t, rfl⟩ := ru; exact EqAt.int_str _ _ _ _
    · obtain ⟨a, xs, rfl, q, _⟩ := he; cases ru; obtain ⟨_, _, t, _⟩ := I.tuple q; exact EqAt.int_tuple _ _ t (by omega)
    · obtain ⟨a, xs, rfl, q, _⟩ := he; cases ru; obtain ⟨_, _, t, _⟩ := I.list q; exact EqAt.int_list _ _ t.isList (by omega)
  | .str x, e, A, v, u, v', u', hd, he, rv, ru, hu => by
    unfold Rep at hd; subst hd; obtain ⟨t0, rfl⟩ := rv
    cases e <;> unfold Rep at he
    · subst he; cases ru; exact EqAt.str_none _ _
    · subst he; cases ru; exact EqAt.str_bool _ _ _
    · subst he; obtain ⟨t, rfl⟩ := ru; exact EqAt.str_int _ _ _ _
    · subst he; obtain ⟨t, rfl⟩ := ru; exact EqAt.str_str _ _ _ _
    · obtain ⟨a, xs, rfl, q, _⟩ := he; cases ru; obtain ⟨_, _, t, _⟩ := I.tuple q; exact EqAt.str_tuple _ _ t (by omega)
    · obtain ⟨a, xs, rfl, q, _⟩ := he; cases ru; obtain ⟨_, _, t, _⟩ := I.list q; exact EqAt.str_list _ _ t.isList (by omega)
  | .tup ds, e, A, v, u, v', u', hd, he, rv, ru, hu => by
    have hd0 := hd
    have he0 := he
    unfold Rep at hd
    obtain ⟨a, xs, rfl, q, r⟩ := hd
    cases rv
    rw [deep] at hu
    obtain ⟨_, _, t0, _⟩ := I.tuple q
    cases e <;> unfold Rep at he
    · subst he; cases ru; exact EqAt.tuple_none t0 (by omega)
    · subst he; cases ru; exact EqAt.tuple_bool _ t0 (by omega)
    · subst he; obtain ⟨t, rfl⟩ := ru; exact EqAt.tuple_int _ _ t0 (by omega)
    · subst he; obtain ⟨t, rfl⟩ := ru; exact EqAt.tuple_str _ _ t0 (by omega)
    · rename_i es
      obtain ⟨b, ys, rfl, q2, r2⟩ := he
      cases ru
      by_cases hab : a = b
      · subst hab
        rw [Rep.inj I _ _ _ hd0 he0, eqD_refl]
        exact EqAt.same _
      · rw [eqD]
        exact EqAt.of_refs hab (rc_tup I q r q2 r2 (by omega) fun us ws w1 w2 j v u e1 e2 => eqAtDs I ds es A.in1 xs ys us ws r r2 w1 w2 (by rw [in1_units]; omega) j v u e1 e2).1
    · obtain ⟨b, ys, rfl, q2, r2⟩ := he
      cases ru
      obtain ⟨_, _, t, _⟩ := I.list q2
      exact EqAt.tuple_list t0 t.isList (by omega)
  | .lst ds, e, A, v, u, v', u', hd, he, rv, ru, hu => by
    have hd0 := hd
    have he0 := he
    unfold Rep at hd
    obtain ⟨a, xs, rfl, q, r⟩ := hd
    cases rv
    rw [deep] at hu
    obtain ⟨_, _, t0, _⟩ := I.list q
    cases e <;> unfold Rep at he
    · subst he; cases ru; exact EqAt.list_none t0.isList (by omega)
    · subst he; cases ru; exact EqAt.list_bool _ t0.isList (by omega)
    · subst he; obtain ⟨t, rfl⟩ := ru; exact EqAt.list_int _ _ t0.isList (by omega)
    · subst he; obtain ⟨t, rfl⟩ := ru; exact EqAt.list_str _ _ t0.isList (by omega)
    · obtain ⟨b, ys, rfl, q2, r2⟩ := he
      cases ru
      obtain ⟨_, _, t, _⟩ := I.tuple q2
      exact EqAt.list_tuple t0.isList t (by omega)
    · rename_i es
      obtain ⟨b, ys, rfl, q2, r2⟩ := he
      cases ru
      by_cases hab : a = b
      · subst hab
        rw [Rep.inj I _ _ _ hd0 he0, eqD_refl]
        exact EqAt.same _
      · rw [eqD]
        exact EqAt.of_refs hab (rc_lst I q r q2 r2 (by omega) fun us ws w1 w2 j v u e1 e2 => eqAtDs I ds es A.in1 xs ys us ws r r2 w1 w2 (by rw [in1_units]; omega) j v u e1 e2).1
theorem eqAtDs (I : Inv X pins σ H s) : ∀ (ds es : List D) (A : Around) (xs ys : List V) (us ws : List Value), Reps X.K H ds xs → Reps X.K H es ys → Vals xs us → Vals ys ws → A.units + deeps ds < cLine →
    ∀ (j : Nat) v u, us[j]? = some v → ws[j]? = some u → EqAt A s v u (pickEq ds es j)
  | [], es, A, xs, ys, us, ws, hd, he, rv, ru, hu, j, v, u, e1, e2 => by
    rw [hd.inv0] at rv; cases rv; simp at e1
  | d :: ds, [], A, xs, ys, us, ws, hd, he, rv, ru, hu, j, v, u, e1, e2 => by
    rw [he.inv0] at ru; cases ru; simp at e2
  | d :: ds, e :: es, A, xs, ys, us, ws, hd, he, rv, ru, hu, j, v, u, e1, e2 => by
    obtain ⟨x, xs, rfl, hx, hxs⟩ := hd.inv
    obtain ⟨y, ys, rfl, hy, hys⟩ := he.inv
    rw [deeps] at hu
    cases rv with
    | cons rv1 rv2 =>
      cases ru with
      | cons ru1 ru2 =>
        cases j with
        | zero =>
          simp at e1 e2
          subst e1 e2
          have p : pickEq (d :: ds) (e :: es) 0 = eqD d e := by simp [pickEq]
          rw [p]
          exact eqAtD I d e A x y _ _ hx hy rv1 ru1 (by omega)
        | succ j =>
          have p : pickEq (d :: ds) (e :: es) (j + 1) = pickEq ds es j := by simp [pickEq]
          rw [p]
          exact eqAtDs I ds es A xs ys _ _ hxs hys rv2 ru2 (by omega) j v u (by simpa using e1) (by simpa using e2)
end
theorem rcD (I : Inv X pins σ H s) (d e : D) {v u : V} {v' u' : Value} (hd : Rep X.K H d v) (he : Rep X.K H e u) (rv : RelV v v') (ru : RelV u u') (hu : A.units + deep d < cLine) : RcAt A s v' u' (eqD d e) ∧ RcNeAt A s v' u' (!eqD d e) := by
  cases d with
  | non =>
    unfold Rep at hd
    subst hd; cases rv
    cases e with
    | non =>
      unfold Rep at he
      subst he; cases ru
      exact ⟨RcAt.none_none , RcNeAt.none_none ⟩
    | bl b1 =>
      unfold Rep at he
      subst he; cases ru
      exact ⟨RcAt.none_bool _ , RcNeAt.none_bool _ ⟩
    | int i1 =>
      unfold Rep at he
      subst he; obtain ⟨t1, rfl⟩ := ru
      exact ⟨RcAt.none_int _ _ , RcNeAt.none_int _ _ ⟩
    | str x1 =>
      unfold Rep at he
      subst he; obtain ⟨t1, rfl⟩ := ru
      exact ⟨RcAt.none_str _ _ , RcNeAt.none_str _ _ ⟩
    | tup es =>
      unfold Rep at he
      obtain ⟨b, ys, rfl, q2, r2⟩ := he
      cases ru
      obtain ⟨_, _, t1, _⟩ := I.tuple q2
      exact ⟨RcAt.none_tuple t1 (by omega), RcNeAt.none_tuple t1 (by omega)⟩
    | lst es =>
      unfold Rep at he
      obtain ⟨b, ys, rfl, q2, r2⟩ := he
      cases ru
      obtain ⟨_, _, t1, _⟩ := I.list q2
      exact ⟨RcAt.none_list t1.isList (by omega), RcNeAt.none_list t1.isList (by omega)⟩
  | bl b0 =>
    unfold Rep at hd
    subst hd; cases rv
    cases e with
    | non =>
      unfold Rep at he
      subst he; cases ru
      exact ⟨RcAt.bool_none _ , RcNeAt.bool_none _ ⟩
    | bl b1 =>
      unfold Rep at he
      subst he; cases ru
      exact ⟨RcAt.bool_bool _ _ , RcNeAt.bool_bool _ _ ⟩
    | int i1 =>
      unfold Rep at he
      subst he; obtain ⟨t1, rfl⟩ := ru
      exact ⟨RcAt.bool_int _ _ _ , RcNeAt.bool_int _ _ _ ⟩
    | str x1 =>
      unfold Rep at he
      subst he; obtain ⟨t1, rfl⟩ := ru
      exact ⟨RcAt.bool_str _ _ _ , RcNeAt.bool_str _ _ _ ⟩
    | tup es =>
      unfold Rep at he
      obtain ⟨b, ys, rfl, q2, r2⟩ := he
      cases ru
      obtain ⟨_, _, t1, _⟩ := I.tuple q2
      exact ⟨RcAt.bool_tuple _ t1 (by omega), RcNeAt.bool_tuple _ t1 (by omega)⟩
    | lst es =>
      unfold Rep at he
      obtain ⟨b, ys, rfl, q2, r2⟩ := he
      cases ru
      obtain ⟨_, _, t1, _⟩ := I.list q2
      exact ⟨RcAt.bool_list _ t1.isList (by omega), RcNeAt.bool_list _ t1.isList (by omega)⟩
  | int i0 =>
    unfold Rep at hd
    subst hd; obtain ⟨t0, rfl⟩ := rv
    cases e with
    | non =>
      unfold Rep at he
      subst he; cases ru
      exact ⟨RcAt.int_none _ _ , RcNeAt.int_none _ _ ⟩
    | bl b1 =>
      unfold Rep at he
      subst he; cases ru
      exact ⟨RcAt.int_bool _ _ _ , RcNeAt.int_bool _ _ _ ⟩
    | int i1 =>
      unfold Rep at he
      subst he; obtain ⟨t1, rfl⟩ := ru
      exact ⟨RcAt.int_int _ _ _ _ , RcNeAt.int_int _ _ _ _ ⟩
    | str x1 =>
      unfold Rep at he
      subst he; obtain ⟨t1, rfl⟩ := ru
      exact ⟨RcAt.int_str _ _ _ _ , RcNeAt.int_str _ _ _ _ ⟩
    | tup es =>
      unfold Rep at he
      obtain ⟨b, ys, rfl, q2, r2⟩ := he
      cases ru
      obtain ⟨_, _, t1, _⟩ := I.tuple q2
      exact ⟨RcAt.int_tuple _ _ t1 (by omega), RcNeAt.int_tuple _ _ t1 (by omega)⟩
    | lst es =>
      unfold Rep at he
      obtain ⟨b, ys, rfl, q2, r2⟩ := he
      cases ru
      obtain ⟨_, _, t1, _⟩ := I.list q2
      exact ⟨RcAt.int_list _ _ t1.isList (by omega), RcNeAt.int_list _ _ t1.isList (by omega)⟩
  | str x0 =>
    unfold Rep at hd
    subst hd; obtain ⟨t0, rfl⟩ := rv
    cases e with
    | non =>
      unfold Rep at he
      subst he; cases ru
      exact ⟨RcAt.str_none _ _ , RcNeAt.str_none _ _ ⟩
    | bl b1 =>
      unfold Rep at he
      subst he; cases ru
      exact ⟨RcAt.str_bool _ _ _ , RcNeAt.str_bool _ _ _ ⟩
    | int i1 =>
      unfold Rep at he
      subst he; obtain ⟨t1, rfl⟩ := ru
      exact ⟨RcAt.str_int _ _ _ _ , RcNeAt.str_int _ _ _ _ ⟩
    | str x1 =>
      unfold Rep at he
      subst he; obtain ⟨t1, rfl⟩ := ru
      exact ⟨RcAt.str_str _ _ _ _ , RcNeAt.str_str _ _ _ _ ⟩
    | tup es =>
      unfold Rep at he
      obtain ⟨b, ys, rfl, q2, r2⟩ := he
      cases ru
      obtain ⟨_, _, t1, _⟩ := I.tuple q2
      exact ⟨RcAt.str_tuple _ _ t1 (by omega), RcNeAt.str_tuple _ _ t1 (by omega)⟩
    | lst es =>
      unfold Rep at he
      obtain ⟨b, ys, rfl, q2, r2⟩ := he
      cases ru
      obtain ⟨_, _, t1, _⟩ := I.list q2
      exact ⟨RcAt.str_list _ _ t1.isList (by omega), RcNeAt.str_list _ _ t1.isList (by omega)⟩
  | tup ds =>
    unfold Rep at hd
    obtain ⟨a, xs, rfl, q, r⟩ := hd
    cases rv
    rw [deep] at hu
    obtain ⟨_, _, t0, _⟩ := I.tuple q
    cases e with
    | non =>
      unfold Rep at he
      subst he; cases ru
      exact ⟨RcAt.tuple_none t0 (by omega), RcNeAt.tuple_none t0 (by omega)⟩
    | bl b1 =>
      unfold Rep at he
      subst he; cases ru
      exact ⟨RcAt.tuple_bool _ t0 (by omega), RcNeAt.tuple_bool _ t0 (by omega)⟩
    | int i1 =>
      unfold Rep at he
      subst he; obtain ⟨t1, rfl⟩ := ru
      exact ⟨RcAt.tuple_int _ _ t0 (by omega), RcNeAt.tuple_int _ _ t0 (by omega)⟩
    | str x1 =>
      unfold Rep at he
      subst he; obtain ⟨t1, rfl⟩ := ru
      exact ⟨RcAt.tuple_str _ _ t0 (by omega), RcNeAt.tuple_str _ _ t0 (by omega)⟩
    | tup es =>
      unfold Rep at he
      obtain ⟨b, ys, rfl, q2, r2⟩ := he
      cases ru
      obtain ⟨_, _, t1, _⟩ := I.tuple q2
      have z := rc_tup I q r q2 r2 (A := A) (by omega) fun us ws w1 w2 j v u e1 e2 => eqAtDs I ds es A.in1 xs ys us ws r r2 w1 w2 (by rw [in1_units]; omega) j v u e1 e2
      rw [eqD]; exact z
    | lst es =>
      unfold Rep at he
      obtain ⟨b, ys, rfl, q2, r2⟩ := he
      cases ru
      obtain ⟨_, _, t1, _⟩ := I.list q2
      exact ⟨RcAt.tuple_list t0 t1.isList (by omega), RcNeAt.tuple_list t0 t1.isList (by omega)⟩
  | lst ds =>
    unfold Rep at hd
    obtain ⟨a, xs, rfl, q, r⟩ := hd
    cases rv
    rw [deep] at hu
    obtain ⟨_, _, t0, _⟩ := I.list q
    cases e with
    | non =>
      unfold Rep at he
      subst he; cases ru
      exact ⟨RcAt.list_none t0.isList (by omega), RcNeAt.list_none t0.isList (by omega)⟩
    | bl b1 =>
      unfold Rep at he
      subst he; cases ru
      exact ⟨RcAt.list_bool _ t0.isList (by omega), RcNeAt.list_bool _ t0.isList (by omega)⟩
    | int i1 =>
      unfold Rep at he
      subst he; obtain ⟨t1, rfl⟩ := ru
      exact ⟨RcAt.list_int _ _ t0.isList (by omega), RcNeAt.list_int _ _ t0.isList (by omega)⟩
    | str x1 =>
      unfold Rep at he
      subst he; obtain ⟨t1, rfl⟩ := ru
      exact ⟨RcAt.list_str _ _ t0.isList (by omega), RcNeAt.list_str _ _ t0.isList (by omega)⟩
    | tup es =>
      unfold Rep at he
      obtain ⟨b, ys, rfl, q2, r2⟩ := he
      cases ru
      obtain ⟨_, _, t1, _⟩ := I.tuple q2
      exact ⟨RcAt.list_tuple t0.isList t1 (by omega), RcNeAt.list_tuple t0.isList t1 (by omega)⟩
    | lst es =>
      unfold Rep at he
      obtain ⟨b, ys, rfl, q2, r2⟩ := he
      cases ru
      obtain ⟨_, _, t1, _⟩ := I.list q2
      have z := rc_lst I q r q2 r2 (A := A) (by omega) fun us ws w1 w2 j v u e1 e2 => eqAtDs I ds es A.in1 xs ys us ws r r2 w1 w2 (by rw [in1_units]; omega) j v u e1 e2
      rw [eqD]; exact z
def rEqD (K : PySem.W.Frag) : R2 := fun x y H Q => ∃ d e, Rep K H d x ∧ Rep K H e y ∧ deep d ≤ 60 ∧ Q (.bl (eqD d e)) H
def rNeD (K : PySem.W.Frag) : R2 := fun x y H Q => ∃ d e, Rep K H d x ∧ Rep K H e y ∧ deep d ≤ 60 ∧ Q (.bl (!eqD d e)) H
theorem op_eqD (hu : X.A.units + 64 < cLine) : OpR X (compareOp .Eq) (rEqD X.K) := by
  intro pins s σ H x y v u Q I rx ry h
  obtain ⟨d, e, hd, he, hz, q⟩ := h
  exact (rcD (A := X.A) I d e hd he rx ry (by omega)).1 X.prog X.w X.xe _ ⟨.bl (eqD d e), H, I, rfl, q⟩
theorem op_neD (hu : X.A.units + 64 < cLine) : OpR X (compareOp .NotEq) (rNeD X.K) := by
  intro pins s σ H x y v u Q I rx ry h
  obtain ⟨d, e, hd, he, hz, q⟩ := h
  exact (rcD (A := X.A) I d e hd he rx ry (by omega)).2 X.prog X.w X.xe _ ⟨.bl (!eqD d e), H, I, rfl, q⟩
noncomputable def absD (K : PySem.W.Frag) (H : Hp) (u : Value) : D := by
  classical exact if h : ∃ d v, RelV v u ∧ Rep K H d v then h.choose else .non
end
end L3
namespace L3
open PySem PySem.Spec PyProof.Rows L2
def blk (X : Cx) (scope : Scope) (cl : List (Str × Addr)) (N' : List Str) (C : Addr) (s₀ : Shared) (H₀ : Hp) (ex : List Addr) (pn : List (Addr × Obj)) : Cx where
  prog := X.prog
  w := X.w
  K := X.K
  mg := X.mg
  base := X.base
  A := X.A
  N := N'
  s₀ := s₀
  H₀ := H₀
  env := compEnvC scope cl C X.env
  outer := X.stack
  stack := X.stack
  ex := ex
  fn := fun _ => false
  calm := X.calm
  pn := pn
  xe := fun _ _ => False
abbrev lobj (its : List Value) : Obj := { cls := .type "list", data := .seq its.toArray its.length }
section
variable {X : Cx} {pins : List (Addr × Obj)} {σ : L2.St} {H : Hp} {s : Shared}
def PF (X : Cx) (ifs : List Expr) (t : TT) : Prop := ∀ (pins : List (Addr × Obj)) (s : Shared) (σ : L2.St) (H : Hp) (Q : Bool → Hp → Prop), Inv X pins σ H s → t σ H Q →
  wpAny (model X.prog X.w) X.A (forIn ifs true fun c r => if r = true then do let ok ← isTrue c X.env (eval c X.env); pure (ForInStep.yield ok) else pure (ForInStep.yield r)) (TP X pins σ Q) X.xe s
def tTrue : TT := fun _ H Q => Q true H
theorem pf_nil : PF X [] tTrue := fun _ _ _ H _ I h => wpAny_tests_nil ⟨H, I, h⟩
theorem pf_one {c : Expr} {t : TT} (h : PT X c t) : PF X [c] t := fun pins s σ H Q I hq => wpAny_tests_one (h pins s σ H Q I hq)
theorem Inv.track {D : Addr} {ys : List V} {its : List Value} (I : Inv X pins σ H s) (hD : H D = none) (ho : s.heap.get? D = some (lobj its)) (hv : Vals ys its) (hz : ys.length ≤ sizeLine)
    (h1 : D ∈ X.ex ∨ X.s₀.heap.objs.size ≤ D) (h2 : D ≠ X.env.locals) (h3 : ∀ x c, X.env.cells.lookup x = some c → c ≠ D) (h4 : ∀ p ∈ X.pn ++ pins, p.1 ≠ D) : Inv X pins σ (upd H D (.lst ys)) s := by
  have old : ∀ b u, H b = some u → upd H D (.lst ys) b = some u := fun b u e => by rw [upd_ne (ne_of_none e hD)]; exact e
  refine I.step (g' := s.gens) (t' := s.toks) (d' := s.drawn) (h' := s.heap) (ch := [D]) (fun b hb => ?_) (fun b o _ _ _ e _ => e) (fun b o _ _ _ e _ => ⟨o.slots, e⟩) (fun b o hb _ n => ?_) (fun b o _ e => ⟨o, e⟩)
    (fun b xs e => old b _ e) (fun b o u e => old b _ e) (fun b ps e => ⟨#[], by rw [old b _ e]; simp⟩) (fun m hm => hm) (fun b u e => ?_) I.bare
  · have e : b = D := by simpa using hb
    subst e
    exact ⟨h1, h2, h3, h4⟩
  · rw [upd_ne (by simpa using hb)]; exact n
  · by_cases hb : b = D
    · subst hb
      rw [upd_same] at e; cases e
      exact ⟨hz, its, its.length, hv, ho⟩
    · rw [upd_ne hb] at e
      exact (I.hok b u e).stay (fun c v _ q => q) (fun c q => old c _ q) fun c xs q => old c _ q
def lend (js : List (Option Nat)) (σ : L2.St) : L2.St := js.map fun o => o.bind fun j => (σ[j]?).join
structure Blk (X : Cx) (scope : Scope) (cl : List (Str × Addr)) (N' : List Str) (js : List (Option Nat)) : Prop where
  clos : closureFor scope X.env = pure cl
  nocell : ∀ y ∈ scope.names, y.2 ≠ .cell
  kind : scope.kind = .function
  names : ∀ y ∈ scope.names, y.2 = .local → scope.names.lookup y.1 = some .local
  sub : ∀ y c, cl.lookup y = some c → X.env.cells.lookup y = some c
  has : ∀ y, ((relabel scope X.env).names.lookup y = some .cell ∨ (relabel scope X.env).names.lookup y = some .free) → ∃ c, cl.lookup y = some c
  len : js.length = N'.length
  lent : ∀ (i : Nat) y j, N'[i]? = some y → js[i]? = some (some j) → X.N[j]? = some y ∧ Vis X.env.scope y ∧ X.env.scope.names.lookup y ≠ some .local ∧ (relabel scope X.env).names.lookup y ≠ some .local
theorem blk_inv {scope : Scope} {cl : List (Str × Addr)} {N' : List Str} {js : List (Option Nat)} {fp : List Addr} {C : Addr} {h1 : Heap} {m : Str → Option Value} {tk : Nat} (B : Blk X scope cl N' js) (I : Inv X pins σ H s) (f : ∀ b ∈ fp, FpOk X pins H b)
    (fo : ∀ b ∈ fp, ∃ o, s.heap.get? b = some o) (old : ∀ b o, s.heap.get? b = some o → h1.get? b = some o) (hns : h1.Ns C m) (hC : s.heap.objs.size ≤ C) :
    Inv (blk X scope cl N' C s H fp (X.pn ++ pins)) [] (lend js σ) H { s with heap := h1, toks := tk } := by
  have ltC : ∀ b o, s.heap.get? b = some o → b ≠ C := fun b o e => Nat.ne_of_lt (Nat.lt_of_lt_of_le (Heap.lt_size e) hC)
  refine ⟨⟨I.ok.mod, B.kind, I.ok.glob, I.ok.blt, hC, fun y z c e1 e2 => I.ok.inj y z c (B.sub y c e1) (B.sub z c e2), fun y hy => B.has y hy, (fun y c e => nomatch e), I.ok.hd, I.ok.frames, .inl rfl, fun b hb => ?_, I.bs, ?_, fun b o e hb => ?_, fun b hb hs => ?_, I.stack, I.stkFree⟩,
    rfl, I.bare, Un.kept old, ⟨m, hns, fun i y v e1 e2 e3 => ?_⟩, fun y c e => ?_, I.hok.fresh hC, fun y c e => I.freeC y c (B.sub y c e), fun p hp => ?_, I.hok.kept old, ?_⟩
  · obtain ⟨o, e⟩ := fo b hb
    exact ⟨ltC b o e, fun y c q => (f b hb).2.2.2.2.1 y c (B.sub y c q)⟩
  · exact Nat.le_trans I.ok.bsz I.sz
  · rcases (f b hb).2.2.2.1 with z | z
    · exact I.ok.noex b o e z
    · exact absurd (Nat.lt_of_lt_of_le (Heap.lt_size (I.ok.bs b o e).1) z) (Nat.lt_irrefl _)
  · rcases List.mem_cons.mp (I.stkSub b hs) with z | z
    · exact (f b hb).2.1 z
    · exact (f b hb).2.2.1 z
  · have e2' : (lend js σ)[i]? = some (some v) := e2
    unfold lend at e2'
    rw [List.getElem?_map] at e2'
    cases ej : js[i]? with
    | none => rw [ej] at e2'; cases e2'
    | some o =>
      rw [ej] at e2'
      cases o with
      | none => cases e2'
      | some j =>
        obtain ⟨n1, n2, n3, n4⟩ := B.lent i y j e1 ej
        have es : σ[j]? = some (some v) := by
          cases q : σ[j]? with
          | none => rw [show (some (some j)).map _ = _ from rfl] at e2'; simp [q] at e2'
          | some z => simp [q] at e2'; rw [e2']
        obtain ⟨m0, hn0, hl0⟩ := I.loc
        obtain ⟨u, r, l⟩ := hl0 j y v n1 es n2
        refine ⟨u, r, ?_⟩
        rcases l with ⟨k, _⟩ | ⟨k, c, ec, z⟩
        · exact absurd k n3
        · have k' : (relabel scope X.env).names.lookup y = some .cell ∨ (relabel scope X.env).names.lookup y = some .free := by
            rcases e3 with q | q
            · exact absurd q n4
            · exact q
          obtain ⟨c', ec'⟩ := B.has y k'
          have := B.sub y c' ec'
          rw [ec] at this; cases this
          obtain ⟨oc, hoc, hd⟩ := z
          exact .inr ⟨k', c, ec', oc, old _ _ hoc, hd⟩
  · obtain ⟨v, oc, hoc, hd⟩ := I.cell y c (B.sub y c e)
    exact ⟨v, oc, old _ _ hoc, hd⟩
  · have hp' : p ∈ X.pn ++ pins := by simpa [blk] using hp
    obtain ⟨e, n, ne, nf, d⟩ := I.pin p hp'
    refine ⟨old _ _ e, n, ltC _ _ e, fun hs => ?_, d⟩
    rcases List.mem_cons.mp (I.stkSub p.1 hs) with z | z
    · exact ne z
    · exact nf z
  · show (lend js σ).length = N'.length
    unfold lend
    rw [List.length_map, B.len]
theorem codeAny_compLoop_any {prog : Program} {w : World} {A : Around} {R : Result → Shared → Prop} {s : Shared} {elt target iter : Expr} {ifs : List Expr} {scope : Scope} {pos : Pos} {it acc : Value} {env : Env} (I : Nat → Shared → Prop)
    (turn : ∀ n s, I n s → wpAny (model prog w) A (pyNext it) (fun r s₁ => match r with
      | none => R (.ok .next) s₁
      | some v => wpAny (model prog w) A (letOwnedTupleGo target it v) (fun _ s₁' => wpAny (model prog w) A (assign target env v) (fun _ s₂ =>
          wpAny (model prog w) A (forIn ifs true fun c r => if r = true then do let ok ← isTrue c env (eval c env); pure (ForInStep.yield ok) else pure (ForInStep.yield r)) (fun ok s₃ =>
            if ok = true then wpAny (model prog w) A (eval elt env) (fun x s₄ =>
              wpAny (model prog w) A (call (.builtin "list.append") [acc, x]) (fun _ s₅ => ∃ m, m < n ∧ I m s₅) (fun _ _ => False) s₄) (fun _ _ => False) s₃
            else ∃ m, m < n ∧ I m s₃) (fun _ _ => False) s₂) (fun _ _ => False) s₁') (fun _ _ => False) s₁) (fun _ _ => False) s)
    (n : Nat) (h : I n s) :
    codeAny (model prog w) A (.compLoop (.ListComp elt [⟨target, iter, ifs, 0⟩] scope pos) 0 it acc env) R s := by
  refine codeAny_loop rfl I (fun n s hI => ?_) n h
  show wpAny _ A ((compTurn (.ListComp elt [⟨target, iter, ifs, 0⟩] scope pos) 0 it acc env).onRaise (fun x => do noteFrame x env; theTreesLotGoes x)) _ _ s
  refine wpAny_noted ?_
  rw [compTurn_list]
  refine wpAny_bind (wpAny_standAt (wpAny_bind (wpAny_mono (turn n s hI) (fun r s₁ h₁ => ?_) fun _ _ f => f.elim)))
  cases r with
  | none => exact wpAny_pure h₁
  | some v =>
    refine wpAny_bind (wpAny_mono h₁ (fun _ s₁' h₁' => ?_) fun _ _ f => f.elim)
    refine wpAny_bind (wpAny_mono h₁' (fun _ s₂ h₂ => wpAny_bind (wpAny_mono h₂ (fun ok s₃ h₃ => ?_) fun _ _ f => f.elim)) fun _ _ f => f.elim)
    cases ok with
    | false => exact wpAny_pure ⟨rfl, h₃⟩
    | true =>
      exact wpAny_bind (wpAny_bind (wpAny_mono h₃ (fun x s₄ h₄ => wpAny_bind (wpAny_mono h₄ (fun _ s₅ h₅ => wpAny_pure (wpAny_pure ⟨rfl, h₅⟩)) fun _ _ f => f.elim)) fun _ _ f => f.elim))
def CompGo (J : It) (g : TG) (tf : TT) (te : TE) (Q : VK) (τ0 : L2.St) (H1 : Hp) : Prop := ∃ W : Nat → Nat → List V → L2.St → Hp → Prop, (∃ m, W 0 m [] τ0 H1) ∧ ∀ i m ys τ H, W i m ys τ H →
  (J.stop i H ∧ ∀ p, H p = none → Q (.ref p) (upd H p (.lst ys))) ∨ (J.go i H ∧ ∃ Nx : List V → L2.St → Hp → Prop, (∀ ys' τ' H', Nx ys' τ' H' → ∃ m', m' < m ∧ W (i + 1) m' ys' τ' H') ∧
    ∀ v H', J.yld i H v H' → g v τ H' fun τ2 H2 => tf τ2 H2 fun b H3 => if b = true then te τ2 H3 fun y H4 => ys.length < sizeLine ∧ Nx (ys ++ [y]) τ2 H4 else Nx ys τ2 H3)
def tComp (js : List (Option Nat)) (wi : TI) (g : TG) (tf : TT) (te : TE) : TE := fun σ H Q => wi σ H fun J H1 => CompGo J g tf te Q (lend js σ) H1
theorem comp_core {elt iter tg : Expr} {ifs : List Expr} {scope : Scope} {pos : Pos} {cl : List (Str × Addr)} {N' : List Str} {js : List (Option Nat)} {g : TG} {tf : TT} {te : TE} {RR : Value → Addr → Result → Shared → Prop} {Qv : VK} {E : Value → Shared → Prop} {it : Addr} {fp : List Addr} {tn : Nat → Heap → Prop} {J : It} {H2 : Hp} {s2 : Shared}
    (hc : X.calm = true) (B : Blk X scope cl N' js) (hg : ∀ C s₀ H₀ ex pn, PG (blk X scope cl N' C s₀ H₀ ex pn) tg g) (hf : ∀ C s₀ H₀ ex pn, PF (blk X scope cl N' C s₀ H₀ ex pn) ifs tf) (he : ∀ C s₀ H₀ ex pn, PE (blk X scope cl N' C s₀ H₀ ex pn) elt te)
    (I2 : Inv X pins σ H2 s2) (T : Turn X.prog X.w X.K tg J fp it tn) (st2 : tn 0 s2.heap) (f2 : ∀ b ∈ fp, FpOk X pins H2 b) (cg : CompGo J g tf te Qv (lend js σ) H2)
    (fin : ∀ (Dd Cc : Addr) (m : Str → Option Value) (s4 : Shared) (Hx : Hp), Inv X pins σ Hx s4 → Qv (.ref Dd) Hx → s4.heap.Ns Cc m → Hx Cc = none → Cc ≠ X.env.locals → X.s₀.heap.objs.size ≤ Cc → (∀ x c, X.env.cells.lookup x = some c → c ≠ Cc) → (∀ p ∈ X.pn ++ pins, p.1 ≠ Cc) →
      RR (.ref Dd) Cc (.ok .next) s4) :
    wpAny (model X.prog X.w) X.A (newList []) (fun acc s₃ => wpAny (model X.prog X.w) X.A (newFunctionEnv scope X.env.globals cl [] X.env.qual none .none (some X.env)) (fun cenv s₄ =>
      codeAny (model X.prog X.w) X.A (.compStart (.ListComp elt [⟨tg, iter, ifs, 0⟩] scope pos) 0 (.ref it) acc { cenv with scope := relabel scope X.env }) (RR acc cenv.locals) s₄) E s₃) E s2 := by
  obtain ⟨W, ⟨m0, w0⟩, turn⟩ := cg
  refine wpAny_newObj_type (wpAny_newFunctionEnv B.nocell (by intro y hy; simp at hy) (fun h₁ hns₁ hsb₁ => ?_) B.kind)
  dsimp only at hns₁ hsb₁ ⊢
  generalize hG : s2.heap.push { cls := .type "list", dict := none, data := .seq ([] : List Value).toArray } = G at hns₁ hsb₁ ⊢
  have hC : G.objs.size = s2.heap.objs.size + 1 := by rw [← hG, Heap.size_push]
  have hDC : s2.heap.objs.size ≠ G.objs.size := by rw [hC]; exact Nat.ne_of_lt (Nat.lt_succ_self _)
  have below : ∀ b, b < s2.heap.objs.size → b ≠ G.objs.size ∧ b ≠ s2.heap.objs.size := fun b hb => ⟨by rw [hC]; exact Nat.ne_of_lt (Nat.lt_succ_of_lt hb), Nat.ne_of_lt hb⟩
  have old : ∀ b o, s2.heap.get? b = some o → h₁.get? b = some o := fun b o e => hsb₁.extBut b o (below b (Heap.lt_size e)).1 (Heap.get?_push_of_some _ (hG ▸ Heap.get?_push_of_some _ e))
  have hacc : h₁.get? s2.heap.objs.size = some (lobj []) := hsb₁.extBut _ _ hDC (Heap.get?_push_of_some _ (hG ▸ Heap.get?_push_size _ rfl))
  have fo : ∀ b ∈ fp, ∃ o, s2.heap.get? b = some o := fun b hb => let ⟨o, e, _⟩ := T.obj 0 _ st2 b hb; ⟨o, e⟩
  have I4 := blk_inv (tk := s2.toks + ([] : List (Str × Value)).length) B I2 f2 fo old hns₁ (by rw [hC]; exact Nat.le_succ _)
  generalize hD : s2.heap.objs.size = Dd at *
  generalize hCC : G.objs.size = Cc at *
  have st4 : tn 0 h₁ := T.keep 0 _ _ st2 fun b _ o e => old b o e
  have fpne : ∀ b ∈ fp, b ≠ Dd := fun b hb => let ⟨o, e⟩ := fo b hb; by rw [← hD]; exact Nat.ne_of_lt (Heap.lt_size e)
  have hDfree : H2 Dd = none := I2.hok.fresh (by rw [hD]; exact Nat.le_refl _)
  have hDfs : Dd ∉ frs X.stack := fun hb => by
    rcases List.mem_cons.mp (I2.stkSub _ hb) with z | z
    · have := I2.lt; rw [← z, hD] at this; exact Nat.lt_irrefl _ this
    · exact I2.nofs (a := Dd) (by rw [hD]; exact Nat.le_refl _) z
  have hDcell : ∀ x c, X.env.cells.lookup x = some c → c ≠ Dd := fun x c e z => by
    obtain ⟨v, q⟩ := I2.cell x c e
    have := q.lt
    rw [z, ← hD] at this; exact Nat.lt_irrefl _ this
  have hDpin : ∀ p ∈ X.pn ++ pins, p.1 ≠ Dd := fun p hp z => by
    have := Heap.lt_size (I2.pin p hp).1
    rw [z, ← hD] at this; exact Nat.lt_irrefl _ this
  generalize hXb : blk X scope cl N' Cc s2 H2 fp (X.pn ++ pins) = Xb at I4
  have xP : Xb.prog = X.prog := by rw [← hXb]; rfl
  have xW : Xb.w = X.w := by rw [← hXb]; rfl
  have xK : Xb.K = X.K := by rw [← hXb]; rfl
  have xA : Xb.A = X.A := by rw [← hXb]; rfl
  have xC : Xb.calm = true := by rw [← hXb]; exact hc
  have xL : Xb.env.locals = Cc := by rw [← hXb]; rfl
  have xFs : Xb.fs = frs X.stack := by rw [← hXb]; rfl
  have xEx : Xb.ex = fp := by rw [← hXb]; rfl
  have xPn : Xb.pn = X.pn ++ pins := by rw [← hXb]; rfl
  have xS : Xb.s₀ = s2 := by rw [← hXb]; rfl
  have xH : Xb.H₀ = H2 := by rw [← hXb]; rfl
  have xCl : ∀ y c, Xb.env.cells.lookup y = some c → X.env.cells.lookup y = some c := by rw [← hXb]; exact B.sub
  have xE : Xb.env = compEnvC scope cl Cc X.env := by rw [← hXb]; rfl
  have xX : Xb.xe = fun _ _ => False := by rw [← hXb]; rfl
  have hg' : PG Xb tg g := by rw [← hXb]; exact hg _ _ _ _ _
  have hf' : PF Xb ifs tf := by rw [← hXb]; exact hf _ _ _ _ _
  have he' : PE Xb elt te := by rw [← hXb]; exact he _ _ _ _ _
  have fok : ∀ {H' : Hp} {o : Obj}, (∀ b ∈ fp, H' b = none) → ∀ b ∈ fp, FpOk Xb [(Dd, o)] H' b := fun {H' o} hn b hb => by
    obtain ⟨o', e'⟩ := fo b hb
    refine ⟨hn b hb, ?_, ?_, .inl (by rw [xEx]; exact hb), fun y c q => (f2 b hb).2.2.2.2.1 y c (xCl y c q), fun p hp => ?_⟩
    · rw [xL]; exact (below b (by have := Heap.lt_size e'; rw [hD] at this; exact this)).1
    · rw [xFs]
      intro hs
      rcases List.mem_cons.mp (I2.stkSub b hs) with z | z
      · exact (f2 b hb).2.1 z
      · exact (f2 b hb).2.2.1 z
    · rw [xPn] at hp
      rcases List.mem_append.mp hp with z | z
      · exact (f2 b hb).2.2.2.2.2 p z
      · rw [List.mem_singleton.mp z]; exact (fpne b hb).symm
  have hDC' : Dd ≠ Cc := by rw [← hD, ← hCC]; rw [← hCC, ← hD] at hDC; exact hDC
  have loop : codeAny (model X.prog X.w) X.A (.compLoop (.ListComp elt [⟨tg, iter, ifs, 0⟩] scope pos) 0 (.ref it) (.ref Dd) (compEnvC scope cl Cc X.env)) (RR (.ref Dd) Cc)
      { s2 with heap := h₁, toks := s2.toks + ([] : List (Str × Value)).length } := by
    refine codeAny_compLoop_any (fun n s' => ∃ i ys τ H' its, Inv Xb [(Dd, lobj its)] τ H' s' ∧ tn i s'.heap ∧ (∀ b ∈ fp, H' b = none) ∧ Vals ys its ∧ ys.length ≤ sizeLine ∧ W i n ys τ H') ?_ m0
      ⟨0, [], _, H2, [], I4.pins_of (fun p hp => ?_), st4, fun b hb => (f2 b hb).1, .nil, Nat.zero_le _, w0⟩
    · rintro n s3 ⟨i, ys, τ, H3, its, I3, st3, fr3, hv, hz, w3⟩
      have pD := I3.pin (Dd, lobj its) (List.mem_append_right _ (List.mem_singleton.mpr rfl))
      rcases turn i n ys τ H3 w3 with ⟨stop, qn⟩ | ⟨go, Nx, hN, step⟩
      · have hd := T.done Xb xP xW xK xC i [(Dd, lobj its)] s3 τ H3 (fun _ _ => False) I3 (fok fr3) st3 stop
        rw [xA] at hd
        refine thn hd fun r s4 ⟨hr, I5⟩ => ?_
        subst hr
        obtain ⟨m, hn, _⟩ := id I5.loc
        rw [xL] at hn
        have pD5 := I5.pin (Dd, lobj its) (List.mem_append_right _ (List.mem_singleton.mpr rfl))
        have ub := I5.base
        rw [xFs, xEx, xS, xH] at ub
        have hfC : H3 Cc = none := by have := I5.free; rw [xL] at this; exact this
        have ok5 : HOk X.prog X.w H3 s4.heap := by have := I5.hok; rw [xP, xW] at this; exact this
        have IX : Inv X pins σ H3 s4 := I2.call' (s' := s4) (by rw [I5.os, xS]) ub ok5 I5.bare fun b hb => ⟨(f2 b hb).2.2.2.1, (f2 b hb).2.1, (f2 b hb).2.2.2.2.1, (f2 b hb).2.2.2.2.2⟩
        have hlo : X.s₀.heap.objs.size ≤ Dd := by rw [← hD]; exact I2.sz
        have hloL : Dd ≠ X.env.locals := fun z => by have := I2.lt; rw [← z, hD] at this; exact Nat.lt_irrefl _ this
        have hCD : Dd ≤ Cc := by omega
        refine fin Dd Cc m s4 (upd H3 Dd (.lst ys)) (L3.Inv.track IX pD5.2.1 pD5.1 hv hz (.inr hlo) hloL hDcell hDpin) (qn Dd pD5.2.1) hn (by rw [upd_ne hDC'.symm]; exact hfC) ?_ (Nat.le_trans hlo hCD) ?_ ?_
        · intro z; have := I2.lt; rw [← z, hD] at this; exact Nat.lt_irrefl _ (Nat.lt_of_lt_of_le this hCD)
        · intro x c e z
          obtain ⟨v, q⟩ := I2.cell x c e
          have := q.lt
          rw [z, hD] at this; exact Nat.lt_irrefl _ (Nat.lt_of_lt_of_le this hCD)
        · intro p hp z
          have := Heap.lt_size (I2.pin p hp).1
          rw [z, hD] at this; exact Nat.lt_irrefl _ (Nat.lt_of_lt_of_le this hCD)
      · have hit := T.item Xb xP xW xK xC i [(Dd, lobj its)] s3 τ H3 (fun _ _ => False) I3 (fok fr3) st3 go
        rw [xA] at hit
        refine thn hit fun r s4 ⟨u, hr, h4⟩ => ?_
        subst hr
        refine thn h4 fun _ s5 ⟨x, H5, I5, r5, y5, st5, fr5⟩ => ?_
        have I5' := I5.pinned (fok fr5) (T.obj _ _ st5)
        have ga := hg' _ s5 τ H5 x u _ I5' r5 (step x H5 y5)
        rw [xP, xW, xA, xE, xX] at ga
        refine thn ga fun _ s6 ⟨τ6, H6, I6, q6⟩ => ?_
        have fa := hf' _ s6 τ6 H6 _ I6 q6
        rw [xP, xW, xA, xE, xX] at fa
        refine thn fa fun ok s7 ⟨H7, I7, q7⟩ => ?_
        have back : ∀ {τ8 : L2.St} {H8 : Hp} {s8 : Shared}, Inv Xb ([(Dd, lobj its)] ++ pinsAt fp s5.heap) τ8 H8 s8 → tn (i + 1) s8.heap ∧ (∀ b ∈ fp, H8 b = none) := fun {τ8 H8 s8} I8 =>
          ⟨T.keep _ _ _ st5 fun b hb o e => (I8.pin (b, o) (List.mem_append_right _ (List.mem_append_right _ (mem_pinsAt hb e)))).1, fun b hb => by
            obtain ⟨o, e, d⟩ := T.obj _ _ st5 b hb
            exact (I8.pin (b, o) (List.mem_append_right _ (List.mem_append_right _ (mem_pinsAt hb e)))).2.1⟩
        cases ok with
        | false =>
          rw [if_neg (by simp)] at q7 ⊢
          obtain ⟨m', hm, w7⟩ := hN _ _ _ q7
          obtain ⟨b1, b2⟩ := back I7
          exact ⟨m', hm, i + 1, ys, τ6, H7, its, I7.unpinned, b1, b2, hv, hz, w7⟩
        | true =>
          rw [if_pos rfl] at q7 ⊢
          have ea := he' _ s7 τ6 H7 _ I7 q7
          rw [xP, xW, xA, xE, xX] at ea
          refine thn ea fun yv s8 ⟨y, H8, I8, r8, hlt, n8⟩ => ?_
          have pD8 := I8.pin (Dd, lobj its) (List.mem_append_right _ (List.mem_append_left _ (List.mem_singleton.mpr rfl)))
          have hil : its.length = ys.length := hv.length.symm
          refine append_at (hsz := by rw [List.size_toArray]; omega) pD8.1 fun h' hs' ho' => ?_
          obtain ⟨m', hm, w8⟩ := hN _ _ _ n8
          obtain ⟨b1, b2⟩ := back I8
          have J1 : Inv Xb [] τ6 H8 s8 := I8.pins_of (fun p hp => nomatch hp)
          have J2 : Inv Xb [] τ6 H8 { s8 with heap := h' } := J1.turned (t' := s8.toks) (it := Dd) (fun b o hb e => (hs'.2 b hb).trans e) pD8.2.1 pD8.2.2.1 (.inr (by rw [xS, hD]; exact Nat.le_refl _)) (fun y c q => hDcell y c (xCl y c q)) fun p hp => by
            rw [xPn, List.append_nil] at hp
            exact hDpin p hp
          refine ⟨m', hm, i + 1, ys ++ [y], τ6, H8, its ++ [yv], J2.pins_of fun p hp => ?_, T.keep _ _ _ b1 fun b hb o e => (hs'.2 b (fpne b hb)).trans e, b2, hv.append (.cons r8 .nil), by rw [List.length_append, List.length_singleton]; omega, w8⟩
          rw [List.mem_singleton.mp hp]
          refine ⟨?_, pD8.2.1, pD8.2.2.1, pD8.2.2.2.1, fun v z => nomatch z⟩
          show h'.get? Dd = some (lobj (its ++ [yv]))
          rw [ho']
          show some ({ cls := .type "list", data := .seq (its.toArray.push yv) (its.length + 1) } : Obj) = some { cls := .type "list", data := .seq (its ++ [yv]).toArray (its ++ [yv]).length }
          rw [List.length_append, List.length_singleton, List.push_toArray]
    · rw [List.mem_singleton.mp hp]
      refine ⟨hacc, hDfree, ?_, ?_, fun v z => nomatch z⟩
      · rw [xL]; rw [← hCC, ← hD]; rw [← hCC, ← hD] at hDC; exact hDC
      · rw [xFs]; exact hDfs
  exact codeAny_compStart_list loop (T.self X.A 0 _ _ _ st4 loop)
theorem pe_comp {elt iter tg : Expr} {ifs : List Expr} {scope : Scope} {pos : Pos} {cl : List (Str × Addr)} {N' : List Str} {js : List (Option Nat)} {wi : TI} {g : TG} {tf : TT} {te : TE} (hc : X.calm = true) (B : Blk X scope cl N' js) (hi : PI X tg iter wi)
    (hg : ∀ C s₀ H₀ ex pn, PG (blk X scope cl N' C s₀ H₀ ex pn) tg g) (hf : ∀ C s₀ H₀ ex pn, PF (blk X scope cl N' C s₀ H₀ ex pn) ifs tf) (he : ∀ C s₀ H₀ ex pn, PE (blk X scope cl N' C s₀ H₀ ex pn) elt te)
    (hs : ∀ x, foldedSetIterable iter X.env x = pure x := by intro _; rfl) : PE X (.ListComp elt [⟨tg, iter, ifs, 0⟩] scope pos) (tComp js wi g tf te) := by
  intro pins s σ H Q I h
  rw [eval_ListComp]
  refine wpAny_comprehension_free (use := none) rfl hs B.clos B.kind B.names (thn (hi pins s σ H _ I h) fun xv s1 h1 => thn h1 fun itv s2 h2 => ?_)
  obtain ⟨it, fp, tn, J, H2, e, I2, T, st2, f2, cg⟩ := h2
  subst e
  refine comp_core (RR := fun acc C => compPost (model X.prog X.w) X.A X.xe none (EP X pins σ Q) acc C) hc B hg hf he I2 T st2 f2 cg ?_
  intro Dd Cc m s4 Hx IX q hn hC cL cS cC cP
  refine ⟨m, hn, fun h' hs' => ⟨.ref Dd, Hx, ?_, rfl, q⟩⟩
  exact IX.turned (t' := s4.toks) (it := Cc) (fun b o hb e => (hs'.2 b hb).trans e) hC cL (.inr cS) cC cP
theorem ps_compset {i : Nat} {y : Str} {elt iter tg : Expr} {ifs : List Expr} {scope : Scope} {pos spos py : Pos} {cl : List (Str × Addr)} {N' : List Str} {js : List (Option Nat)} {wi : TI} {g : TG} {tf : TT} {te : TE} (hN : X.N.Nodup) (hy : X.N[i]? = some y) (hx : Loc X.env.scope y)
    (hsw : swapsWith (.ListComp elt [⟨tg, iter, ifs, 0⟩] scope pos) (some (.Name y py)) spos.line X.env = pure true) (hc : X.calm = true) (B : Blk X scope cl N' js) (hi : PI X tg iter wi)
    (hg : ∀ C s₀ H₀ ex pn, PG (blk X scope cl N' C s₀ H₀ ex pn) tg g) (hf : ∀ C s₀ H₀ ex pn, PF (blk X scope cl N' C s₀ H₀ ex pn) ifs tf) (he : ∀ C s₀ H₀ ex pn, PE (blk X scope cl N' C s₀ H₀ ex pn) elt te)
    (hs : ∀ x, foldedSetIterable iter X.env x = pure x := by intro _; rfl) (hfn : X.fn y = true ∨ X.env.scope.names.lookup y = some .local := by first | exact .inl rfl | exact .inr rfl | assumption) :
    PS X (.Assign [.Name y py] (.ListComp elt [⟨tg, iter, ifs, 0⟩] scope pos) spos) (tAsg (tComp js wi g tf te) (gName i)) := by
  intro pins s σ H D I h
  rw [exec_Assign_Name_used _ _ _ _ hsw]
  refine wpAny_bind (wpAny_standAt (wpAny_bind ?_))
  show wpAny _ X.A (do let _ ← comprehension (.ListComp elt [⟨tg, iter, ifs, 0⟩] scope pos) scope X.env _ (newList []) false (eval iter X.env) (some (assign (.Name y py) X.env))) _ _ s
  refine wpAny_bind (wpAny_mono (wpAny_comprehension_free (use := some (assign (.Name y py) X.env)) (Q := fun _ s' => SP X pins D .next s') rfl hs B.clos B.kind B.names
    (thn (hi pins s σ H _ I h) fun xv s1 h1 => thn h1 fun itv s2 h2 => ?_)) (fun _ s' hq => wpAny_pure (wpAny_pure hq)) fun _ _ e => e)
  obtain ⟨it, fp, tn, J, H2, e, I2, T, st2, f2, cg⟩ := h2
  subst e
  refine comp_core (RR := fun acc C => compPost (model X.prog X.w) X.A X.xe (some (assign (.Name y py) X.env)) (fun _ s' => SP X pins D .next s') acc C) hc B hg hf he I2 T st2 f2 cg ?_
  intro Dd Cc m s4 Hx IX q hn hC cL cS cC cP
  show wpAny _ X.A (assign (.Name y py) X.env (.ref Dd)) _ _ _
  refine wpAny_assign_Name (store_ok2 IX hN hy hx (v := .ref Dd) rfl (fun s5 I5 ⟨b, hb, hb'⟩ => ?_) hfn)
  have hCb : Cc ≠ b := fun z => by
    rcases hb' with w | w
    · exact cL (z.trans w)
    · exact cC y b w z.symm
  refine ⟨m, hn.sameBut hb hCb, fun h' hs' => ⟨_, Hx, I5.turned (t' := s5.toks) (it := Cc) (fun b o hb e => (hs'.2 b hb).trans e) hC cL (.inr cS) cC cP, q⟩⟩
end
def capt (env : Env) : List (Str × NameKind) → List (Str × Addr) → List (Str × Addr)
  | [], acc => acc
  | (n, k) :: r, acc => capt env r (if k == .free then (match env.cells.lookup n with | some c => (n, c) :: acc | none => acc) else acc)
theorem lookup_cons' {n y : Str} {c : Addr} {acc : List (Str × Addr)} : ((n, c) :: acc).lookup y = if y == n then some c else acc.lookup y := by
  rw [List.lookup_cons]; cases y == n <;> rfl
theorem capt_sub {env : Env} : ∀ (names : List (Str × NameKind)) (acc : List (Str × Addr)), (∀ y c, acc.lookup y = some c → env.cells.lookup y = some c) → ∀ y c, (capt env names acc).lookup y = some c → env.cells.lookup y = some c
  | [], acc, h, y, c, e => h y c e
  | (n, k) :: r, acc, h, y, c, e => by
    unfold capt at e
    refine capt_sub r _ (fun y c q => ?_) y c e
    split at q
    · split at q
      · rename_i c' hc
        rw [lookup_cons'] at q
        split at q
        · rename_i hy
          cases q
          rw [eq_of_beq hy]; exact hc
        · exact h y c q
      · exact h y c q
    · exact h y c q
theorem capt_keep {env : Env} {y : Str} : ∀ (names : List (Str × NameKind)) (acc : List (Str × Addr)), (∃ c, acc.lookup y = some c) → ∃ c, (capt env names acc).lookup y = some c
  | [], acc, h => h
  | (n, k) :: r, acc, h => by
    unfold capt
    refine capt_keep r _ ?_
    split
    · split
      · rw [lookup_cons']
        split
        · exact ⟨_, rfl⟩
        · exact h
      · exact h
    · exact h
theorem capt_has {env : Env} {y : Str} (hy : (env.cells.lookup y).isSome = true) : ∀ (names : List (Str × NameKind)) (acc : List (Str × Addr)), (y, NameKind.free) ∈ names → ∃ c, (capt env names acc).lookup y = some c
  | (n, k) :: r, acc, h => by
    unfold capt
    rcases List.mem_cons.mp h with z | z
    · cases z
      refine capt_keep r _ ?_
      obtain ⟨c, hc⟩ := Option.isSome_iff_exists.mp hy
      rw [if_pos (by rfl), hc]
      exact ⟨c, by rw [lookup_cons', if_pos (beq_self_eq_true y)]⟩
    · exact capt_has hy r _ z
theorem relabel_free {scope : Scope} {env : Env} {y : Str} (h0 : ∀ z ∈ scope.names, z.2 ≠ .cell) (h : (relabel scope env).names.lookup y = some .cell ∨ (relabel scope env).names.lookup y = some .free) : (y, NameKind.free) ∈ scope.names := by
  have mem : ∃ k, (k = NameKind.cell ∨ k = NameKind.free) ∧ (y, k) ∈ (relabel scope env).names := by
    rcases h with h | h
    · exact ⟨_, .inl rfl, PySem.mem_of_lookup h⟩
    · exact ⟨_, .inr rfl, PySem.mem_of_lookup h⟩
  obtain ⟨k, hk, hm⟩ := mem
  unfold relabel at hm
  obtain ⟨⟨n, k'⟩, hm', e⟩ := List.mem_map.mp hm
  simp only at e
  split at e
  · rename_i hc
    cases e
    have : k' = .free := by
      simp only [Bool.and_eq_true, beq_iff_eq] at hc
      exact hc.1.1
    rw [← this]; exact hm'
  · cases e
    rcases hk with rfl | rfl
    · exact absurd rfl (h0 _ hm')
    · exact hm'
def chkFree (scope : Scope) (env : Env) : Bool := scope.names.all fun y => y.2 != .free || (env.cells.lookup y.1).isSome
def chkLent (X : Cx) (scope : Scope) : List Str → List (Option Nat) → Bool
  | [], [] => true
  | y :: N, o :: js => (match o with
    | none => true
    | some j => X.N[j]? == some y && (X.env.scope.names.lookup y == some .cell || X.env.scope.names.lookup y == some .free) && (relabel scope X.env).names.lookup y != some .local) && chkLent X scope N js
  | _, _ => false
theorem chkLent_at {X : Cx} {scope : Scope} : ∀ {N : List Str} {js : List (Option Nat)}, chkLent X scope N js = true → js.length = N.length ∧ ∀ (i : Nat) y j, N[i]? = some y → js[i]? = some (some j) → X.N[j]? = some y ∧ Vis X.env.scope y ∧ X.env.scope.names.lookup y ≠ some .local ∧ (relabel scope X.env).names.lookup y ≠ some .local
  | [], [], _ => ⟨rfl, fun i y j h => by simp at h⟩
  | [], _ :: _, h => by simp [chkLent] at h
  | _ :: _, [], h => by simp [chkLent] at h
  | z :: N, o :: js, h => by
    unfold chkLent at h
    rw [Bool.and_eq_true] at h
    obtain ⟨l, t⟩ := chkLent_at h.2
    refine ⟨by rw [List.length_cons, List.length_cons, l], fun i y j h1 h2 => ?_⟩
    cases i with
    | zero =>
      simp at h1 h2
      subst h1 h2
      have h' := h.1
      simp only [Bool.and_eq_true, Bool.or_eq_true, beq_iff_eq, bne_iff_ne] at h'
      refine ⟨h'.1.1, ?_, ?_, h'.2⟩
      · rcases h'.1.2 with q | q
        · exact .inr (.inl q)
        · exact .inr (.inr q)
      · rcases h'.1.2 with q | q <;> rw [q] <;> decide
    | succ i => exact t i y j (by simpa using h1) (by simpa using h2)
theorem blk_mk {X : Cx} {scope : Scope} {N' : List Str} {js : List (Option Nat)} (clos : closureFor scope X.env = pure (capt X.env scope.names [])) (nocell : ∀ y ∈ scope.names, y.2 ≠ .cell) (kind : scope.kind = .function)
    (names : ∀ y ∈ scope.names, y.2 = .local → scope.names.lookup y.1 = some .local) (free : chkFree scope X.env = true) (lent : chkLent X scope N' js = true) : Blk X scope (capt X.env scope.names []) N' js where
  clos := clos
  nocell := nocell
  kind := kind
  names := names
  sub := capt_sub _ _ fun y c e => nomatch e
  has := fun y h => by
    have hm := relabel_free nocell h
    have hf := List.all_eq_true.mp free _ hm
    exact capt_has (by simpa using hf) _ _ hm
  len := (chkLent_at lent).1
  lent := (chkLent_at lent).2
theorem comp_list {K : PySem.W.Frag} {a : Addr} {xs : List V} {g : TG} {tf : TT} {te : TE} {τ : L2.St} {H : Hp} {Q : VK} (Pv : Nat → List V → L2.St → Hp → Prop) (h0 : Pv 0 [] τ H) (hl : ∀ i ys τ H, Pv i ys τ H → SqL K H a xs)
    (hs : ∀ i x ys τ H, xs[i]? = some x → Pv i ys τ H → g x τ H fun τ2 H2 => tf τ2 H2 fun b H3 => if b = true then te τ2 H3 fun y H4 => ys.length < sizeLine ∧ Pv (i + 1) (ys ++ [y]) τ2 H4 else Pv (i + 1) ys τ2 H3)
    (hd : ∀ ys τ H, Pv xs.length ys τ H → ∀ p, H p = none → Q (.ref p) (upd H p (.lst ys))) :
    CompGo (Itl K a) g tf te Q τ H := by
  refine ⟨fun i m ys τ H => m = xs.length - i ∧ i ≤ xs.length ∧ Pv i ys τ H, ⟨xs.length, by simp, Nat.zero_le _, h0⟩, ?_⟩
  rintro i m ys τ H ⟨rfl, hi, p⟩
  have q := hl i ys τ H p
  by_cases hlt : i < xs.length
  · refine .inr ⟨⟨xs, xs[i], q, by simp [hlt]⟩, Pv (i + 1), fun ys' τ' H' p' => ⟨xs.length - (i + 1), by omega, rfl, hlt, p'⟩, fun x H' y => ?_⟩
    obtain ⟨e, y⟩ := y
    subst e
    exact hs i x ys τ _ (y xs q) p
  · have e : i = xs.length := by omega
    subst e
    exact .inl ⟨⟨xs, q, Nat.le_refl _⟩, hd ys τ H p⟩
theorem comp_range {lo : Int} {n : Nat} {g : TG} {tf : TT} {te : TE} {τ : L2.St} {H : Hp} {Q : VK} (Pv : Nat → List V → L2.St → Hp → Prop) (h0 : Pv 0 [] τ H)
    (hs : ∀ i ys τ H, i < n → Pv i ys τ H → g (.int (lo + i)) τ H fun τ2 H2 => tf τ2 H2 fun b H3 => if b = true then te τ2 H3 fun y H4 => ys.length < sizeLine ∧ Pv (i + 1) (ys ++ [y]) τ2 H4 else Pv (i + 1) ys τ2 H3)
    (hd : ∀ ys τ H, Pv n ys τ H → ∀ p, H p = none → Q (.ref p) (upd H p (.lst ys))) :
    CompGo (Itr lo n) g tf te Q τ H := by
  refine ⟨fun i m ys τ H => m = n - i ∧ i ≤ n ∧ Pv i ys τ H, ⟨n, by simp, Nat.zero_le _, h0⟩, ?_⟩
  rintro i m ys τ H ⟨rfl, hi, p⟩
  by_cases hlt : i < n
  · refine .inr ⟨hlt, Pv (i + 1), fun ys' τ' H' p' => ⟨n - (i + 1), by omega, rfl, hlt, p'⟩, fun x H' y => ?_⟩
    obtain ⟨e, y⟩ := y
    subst e y
    exact hs i ys τ _ hlt p
  · have e : i = n := by omega
    subst e
    exact .inl ⟨Nat.le_refl _, hd ys τ H p⟩
end L3
namespace L3
open PySem PySem.Spec PyProof.Rows L2
section
variable {prog : Program} {w : World} {A : Around} {E : Value → Shared → Prop} {s : Shared} {l : Addr} {xs : Array Value}
end
section
variable {X : Cx}
theorem strsAre_of : ∀ {xs : List Str} {us : List Value}, Vals (xs.map V.str) us → StrsAre us xs
  | [], _, r => by cases r; exact .nil
  | x :: xs, _, r => by
    cases r with
    | cons r1 r2 =>
      obtain ⟨t, rfl⟩ := r1
      exact .cons x t (strsAre_of r2)
def rJoin (K : PySem.W.Frag) : V → List V → Hp → VK → Prop := fun x vs H Q => ∃ z p ys, x = .str z ∧ vs = [.ref p] ∧ SqL K H p (ys.map V.str) ∧ (ys.map (·.length)).sum + ys.length * z.length ≤ 16777216 ∧ Q (.str (Txt.join z ys)) H
theorem mt_join : MtR X "str.join" (rJoin X.K) := by
  intro pins s σ H x vs v us Q I rx rv h
  obtain ⟨z, p, ys, rfl, rfl, hq, hz, q⟩ := h
  obtain ⟨t, rfl⟩ := rx
  obtain ⟨u, rfl, ru⟩ := vals1 rv
  cases ru
  obtain ⟨its, ri, pl, _⟩ := I.list hq
  exact join_list pl.isList (by simpa using strsAre_of ri) hz fun t' k => ⟨.str (Txt.join z ys), H, I.tok _, ⟨_, rfl⟩, q⟩
end
end L3
namespace L3
open PySem PySem.Spec PyProof.Rows L2
section
variable {X : Cx} {e st : Expr} {te ts : TE} {pos p2 : Pos}
end
end L3
namespace ST
open PySem PySem.SetTable
def it : Nat → Nat → Nat
  | 0, x => x
  | n + 1, x => it n (5 * x + 1)
theorem it_add : ∀ m n x, it (m + n) x = it n (it m x)
  | 0, n, x => by rw [Nat.zero_add]; rfl
  | m + 1, n, x => by rw [Nat.succ_add]; exact it_add m n (5 * x + 1)
theorem it_pow (k : Nat) : ∃ a, a % 2 = 1 ∧ ∀ y, it (2 ^ k) y = y + 2 ^ k * a * (4 * y + 1) := by
  induction k with
  | zero => exact ⟨1, rfl, fun y => by show 5 * y + 1 = y + 1 * 1 * (4 * y + 1); omega⟩
  | succ k ih =>
    obtain ⟨a, ha, h⟩ := ih
    refine ⟨a * (1 + 2 ^ (k + 1) * a), ?_, fun y => ?_⟩
    · rw [Nat.mul_mod, ha, Nat.pow_succ, Nat.mul_comm (2 ^ k) 2, Nat.mul_assoc]
      omega
    · rw [Nat.pow_succ, Nat.mul_two, it_add, h, h]
      grind
theorem reach_mod (k : Nat) : ∀ x j, j < 2 ^ k → ∃ n, n < 2 ^ k ∧ it n x % 2 ^ k = j := by
  induction k with
  | zero => intro x j h; exact ⟨0, by decide, by simp at h; subst h; simp [Nat.mod_one]⟩
  | succ k ih =>
    intro x j h
    have hp : 0 < 2 ^ k := Nat.two_pow_pos k
    have e : 2 ^ (k + 1) = 2 ^ k * 2 := Nat.pow_succ ..
    obtain ⟨n, hn, hx⟩ := ih x (j % 2 ^ k) (Nat.mod_lt _ hp)
    obtain ⟨a, ha, hi⟩ := it_pow k
    rw [e] at h ⊢
    generalize 2 ^ k = N at *
    have small : ∀ r, r < N * 2 → r % N = if r < N then r else r - N := fun r hr => by
      split
      · exact Nat.mod_eq_of_lt ‹_›
      · rw [Nat.mod_eq_sub_mod (by omega), Nat.mod_eq_of_lt (by omega)]
    have r0 : it n x % (N * 2) < N * 2 := Nat.mod_lt _ (by omega)
    have r1 : it n x % (N * 2) % N = j % N := by rw [Nat.mod_mod_of_dvd _ ⟨2, rfl⟩]; exact hx
    rw [small _ r0, small _ h] at r1
    by_cases c : it n x % (N * 2) = j
    · exact ⟨n, by omega, c⟩
    · refine ⟨n + N, by omega, ?_⟩
      have odd : ∃ b, a * (4 * it n x + 1) = 2 * b + 1 := by
        obtain ⟨c', rfl⟩ : ∃ c', a = 2 * c' + 1 := ⟨a / 2, by omega⟩
        exact ⟨c' * (4 * it n x + 1) + 2 * it n x, by grind⟩
      obtain ⟨b, hb⟩ := odd
      have e2 : it (n + N) x = it n x + N + N * 2 * b := by
        rw [it_add, hi, Nat.mul_assoc, hb]; grind
      rw [e2, Nat.add_mul_mod_self_left, Nat.add_mod, Nat.mod_eq_of_lt (show N < N * 2 by omega)]
      generalize it n x % (N * 2) = r at *
      split at r1 <;> split at r1
      · omega
      · have : j = r + N := by omega
        rw [this, Nat.mod_eq_of_lt (by omega)]
      · have : r = j + N := by omega
        rw [this, show j + N + N = j + N * 2 by omega, Nat.add_mod_right, Nat.mod_eq_of_lt h]
      · omega
def adv (mask : Nat) (p : Probe) : Probe :=
  if p.more > 0 then { p with j := p.j + 1, more := p.more - 1 } else
  { p with j := (leap mask p.i p.perturb).1, more := runEnd mask (leap mask p.i p.perturb).1 - (leap mask p.i p.perturb).1, i := (leap mask p.i p.perturb).1, perturb := (leap mask p.i p.perturb).2 }
theorem advance_eq (t : SetTable) (p : Probe) : t.advance p = adv t.mask p := by
  unfold advance adv
  split <;> rfl
def blockAt (mask i perturb : Nat) : Probe := { j := i, more := runEnd mask i - i, i, perturb, dummy := none }
def st (mask : Nat) (h : Int) : Probe := blockAt mask (bits h % (mask + 1)) (bits h)
def itr (mask : Nat) : Nat → Probe → Probe
  | 0, p => p
  | n + 1, p => itr mask n (adv mask p)
theorem itr_succ (mask : Nat) : ∀ n p, itr mask (n + 1) p = adv mask (itr mask n p)
  | 0, _ => rfl
  | n + 1, p => itr_succ mask n (adv mask p)
theorem itr_add (mask : Nat) : ∀ m n p, itr mask (m + n) p = itr mask n (itr mask m p)
  | 0, n, p => by rw [Nat.zero_add]; rfl
  | m + 1, n, p => by rw [Nat.succ_add]; exact itr_add mask m n (adv mask p)
def pos (mask : Nat) (h : Int) (n : Nat) : Nat := (itr mask n (st mask h)).j
theorem itr_run (mask : Nat) : ∀ r (p : Probe), r ≤ p.more → itr mask r p = { p with j := p.j + r, more := p.more - r }
  | 0, p, _ => rfl
  | r + 1, p, h => by
    show itr mask r (adv mask p) = _
    have e : adv mask p = { p with j := p.j + 1, more := p.more - 1 } := by unfold adv; rw [if_pos (by omega)]
    rw [e, itr_run mask r _ (by show r ≤ p.more - 1; omega)]
    show ({ j := p.j + 1 + r, more := p.more - 1 - r, i := p.i, perturb := p.perturb, dummy := p.dummy } : Probe) = { j := p.j + (r + 1), more := p.more - (r + 1), i := p.i, perturb := p.perturb, dummy := p.dummy }
    congr 1 <;> omega
theorem more_le (mask i : Nat) : runEnd mask i - i ≤ 9 := by unfold runEnd; split <;> omega
theorem itr_block (mask i perturb : Nat) : itr mask (runEnd mask i - i + 1) (blockAt mask i perturb) = blockAt mask (leap mask i perturb).1 (leap mask i perturb).2 := by
  rw [itr_succ, itr_run mask (runEnd mask i - i) (blockAt mask i perturb) (show runEnd mask i - i ≤ runEnd mask i - i from Nat.le_refl _)]
  unfold adv
  rw [if_neg (by show ¬ (runEnd mask i - i - (runEnd mask i - i) > 0); omega)]
  rfl
def bk (mask : Nat) : Nat → Nat × Nat → Nat × Nat
  | 0, x => x
  | m + 1, x => bk mask m (leap mask x.1 x.2)
theorem bk_add (mask : Nat) : ∀ m n x, bk mask (m + n) x = bk mask n (bk mask m x)
  | 0, n, x => by rw [Nat.zero_add]; rfl
  | m + 1, n, x => by rw [Nat.succ_add]; exact bk_add mask m n _
theorem block_at (mask : Nat) : ∀ m i p, ∃ n, n ≤ 10 * m ∧ itr mask n (blockAt mask i p) = blockAt mask (bk mask m (i, p)).1 (bk mask m (i, p)).2
  | 0, i, p => ⟨0, Nat.zero_le _, rfl⟩
  | m + 1, i, p => by
    obtain ⟨n, hn, e⟩ := block_at mask m (leap mask i p).1 (leap mask i p).2
    have h9 := more_le mask i
    refine ⟨runEnd mask i - i + 1 + n, by omega, ?_⟩
    rw [itr_add, itr_block, e]
    rfl
theorem bk_perturb (mask : Nat) : ∀ m i p, (bk mask m (i, p)).2 = p / 32 ^ m
  | 0, i, p => by simp [bk]
  | m + 1, i, p => by
    show (bk mask m ((leap mask i p).1, (leap mask i p).2)).2 = _
    rw [bk_perturb mask m]
    show p / 32 / 32 ^ m = p / 32 ^ (m + 1)
    rw [Nat.div_div_eq_div_mul, Nat.pow_succ, Nat.mul_comm]
theorem bk_zero (mask : Nat) : ∀ m x, x < mask + 1 → (bk mask m (x, 0)).1 = it m x % (mask + 1)
  | 0, x, h => by show x = x % (mask + 1); rw [Nat.mod_eq_of_lt h]
  | m + 1, x, h => by
    show (bk mask m ((x * 5 + 1 + 0 / 32) % (mask + 1), 0 / 32)).1 = it m (5 * x + 1) % (mask + 1)
    rw [Nat.zero_div, Nat.add_zero, bk_zero mask m _ (Nat.mod_lt _ (by omega))]
    have go : ∀ m a b, a % (mask + 1) = b % (mask + 1) → it m a % (mask + 1) = it m b % (mask + 1) := fun m => by
      induction m with
      | zero => intro a b h; exact h
      | succ m ih => intro a b h; exact ih _ _ (by rw [Nat.add_mod, Nat.mul_mod, h, ← Nat.mul_mod, ← Nat.add_mod])
    refine go m _ _ ?_
    rw [Nat.mod_mod, Nat.mul_comm]
theorem bits_lt (h : Int) : bits h < 2 ^ 64 := by unfold bits; omega
theorem covers {mask k : Nat} (hm : mask + 1 = 2 ^ k) (h : Int) {j : Nat} (hj : j ≤ mask) : ∃ n, n < 10 * (mask + 14) ∧ pos mask h n = j := by
  have hp : (bk mask 13 (bits h % (mask + 1), bits h)).2 = 0 := by
    rw [bk_perturb]
    refine Nat.div_eq_of_lt (Nat.lt_of_lt_of_le (bits_lt h) (by decide))
  have hlt : (bk mask 13 (bits h % (mask + 1), bits h)).1 < mask + 1 := by
    show (bk mask (12 + 1) _).1 < _
    rw [bk_add]
    show (leap mask _ _).1 < _
    exact Nat.mod_lt _ (by omega)
  generalize hX : bk mask 13 (bits h % (mask + 1), bits h) = X at hp hlt
  obtain ⟨x, p⟩ := X
  dsimp only at hp hlt
  subst hp
  obtain ⟨n, hn, e⟩ := reach_mod k x j (by omega)
  rw [← hm] at hn e
  obtain ⟨m, hm', em⟩ := block_at mask (13 + n) (bits h % (mask + 1)) (bits h)
  refine ⟨m, by omega, ?_⟩
  show (itr mask m (st mask h)).j = j
  unfold st
  rw [em, bk_add, hX]
  show (bk mask n (x, 0)).1 = j
  rw [bk_zero _ _ _ hlt, e]
theorem least {P : Nat → Prop} : ∀ b, (∃ n, n < b ∧ P n) → ∃ n, n < b ∧ P n ∧ ∀ m, m < n → ¬ P m
  | 0, ⟨_, h, _⟩ => absurd h (Nat.not_lt_zero _)
  | b + 1, ⟨n, hn, hp⟩ => by
    rcases Classical.em (∃ n, n < b ∧ P n) with c | c
    · obtain ⟨m, h1, h2, h3⟩ := least b c
      exact ⟨m, by omega, h2, h3⟩
    · have e : n = b := by
        rcases Nat.lt_or_ge n b with z | z
        · exact absurd ⟨n, z, hp⟩ c
        · omega
      subst e
      exact ⟨n, by omega, hp, fun m hm q => c ⟨m, hm, q⟩⟩
theorem first_free {mask k : Nat} (hm : mask + 1 = 2 ^ k) (h : Int) {occ : List Nat} (ho : ∃ j, j ≤ mask ∧ j ∉ occ) : ∃ n, n < 10 * (mask + 14) ∧ pos mask h n ∉ occ ∧ ∀ m, m < n → pos mask h m ∈ occ := by
  obtain ⟨j, hj, hn⟩ := ho
  obtain ⟨n, h1, h2⟩ := covers hm h hj
  obtain ⟨m, a, b, c⟩ := least (P := fun n => pos mask h n ∉ occ) (10 * (mask + 14)) ⟨n, h1, by show pos mask h n ∉ occ; rw [h2]; exact hn⟩
  exact ⟨m, a, b, fun q hq => Classical.byContradiction fun z => c q hq z⟩
theorem pos_le (mask : Nat) (h : Int) : ∀ n, pos mask h n ≤ mask ∧ (itr mask n (st mask h)).j + (itr mask n (st mask h)).more ≤ mask
  | 0 => by
    have h1 : bits h % (mask + 1) < mask + 1 := Nat.mod_lt _ (by omega)
    refine ⟨by show bits h % (mask + 1) ≤ mask; omega, ?_⟩
    show bits h % (mask + 1) + (runEnd mask (bits h % (mask + 1)) - bits h % (mask + 1)) ≤ mask
    unfold runEnd; split <;> omega
  | n + 1 => by
    obtain ⟨_, ih⟩ := pos_le mask h n
    unfold pos
    rw [itr_succ]
    generalize itr mask n (st mask h) = p at *
    unfold adv
    split
    · exact ⟨by show p.j + 1 ≤ mask; omega, by show p.j + 1 + (p.more - 1) ≤ mask; omega⟩
    · have h1 : (leap mask p.i p.perturb).1 < mask + 1 := Nat.mod_lt _ (by omega)
      generalize (leap mask p.i p.perturb).1 = i at *
      refine ⟨by show i ≤ mask; omega, ?_⟩
      show i + (runEnd mask i - i) ≤ mask
      unfold runEnd; split <;> omega
theorem itr_dummy (mask : Nat) (h : Int) : ∀ n, (itr mask n (st mask h)).dummy = none
  | 0 => rfl
  | n + 1 => by
    rw [itr_succ]
    have ih := itr_dummy mask h n
    unfold adv
    split <;> exact ih
end ST
namespace ST
open PySem PySem.SetTable
def Ris (xs : List Nat) : Prop := xs.Pairwise (· < ·)
theorem Ris.get {xs : Array Nat} (hr : Ris xs.toList) {i j : Nat} (hi : i < xs.size) (hj : j < xs.size) (h : i < j) : xs[i] < xs[j] := by
  have := List.pairwise_iff_getElem.mp hr i j (by simpa using hi) (by simpa using hj) h
  simpa using this
theorem Ris.get_le {xs : Array Nat} (hr : Ris xs.toList) {i j : Nat} (hi : i < xs.size) (hj : j < xs.size) (h : i ≤ j) : xs[i] ≤ xs[j] := by
  rcases Nat.lt_or_ge i j with c | c
  · exact Nat.le_of_lt (hr.get hi hj c)
  · have : i = j := by omega
    subst this; exact Nat.le_refl _
def Split (xs : Array Nat) (j r : Nat) : Prop := r ≤ xs.size ∧ (∀ i (h : i < xs.size), i < r → xs[i] < j) ∧ ∀ i (h : i < xs.size), r ≤ i → j ≤ xs[i]
theorem below_go {xs : Array Nat} (hr : Ris xs.toList) (j : Nat) : ∀ fuel lo hi, lo ≤ hi → hi ≤ xs.size → hi - lo ≤ fuel → (∀ i (h : i < xs.size), i < lo → xs[i] < j) → (∀ i (h : i < xs.size), hi ≤ i → j ≤ xs[i]) → Split xs j (below.go xs j fuel lo hi)
  | 0, lo, hi, h1, h2, h3, a, b => by
    have : lo = hi := by omega
    subst this
    exact ⟨h2, a, b⟩
  | fuel + 1, lo, hi, h1, h2, h3, a, b => by
    unfold below.go
    by_cases c : lo < hi
    · rw [if_pos c]
      dsimp only
      have hm : (lo + hi) / 2 < xs.size := by omega
      rw [show xs.getD ((lo + hi) / 2) j = xs[(lo + hi) / 2] by simp [Array.getD, hm]]
      by_cases d : xs[(lo + hi) / 2] < j
      · rw [if_pos d]
        exact below_go hr j fuel _ _ (by omega) h2 (by omega) (fun i h q => Nat.lt_of_le_of_lt (hr.get_le h hm (by omega)) d) b
      · rw [if_neg d]
        exact below_go hr j fuel _ _ (by omega) (by omega) (by omega) a (fun i h q => Nat.le_trans (by omega) (hr.get_le hm h q))
    · rw [if_neg c]
      have : lo = hi := by omega
      subst this
      exact ⟨h2, a, b⟩
theorem below_spec {xs : Array Nat} (hr : Ris xs.toList) (j : Nat) : Split xs j (below xs j) :=
  below_go hr j _ _ _ (Nat.zero_le _) (Nat.le_refl _) (by omega) (fun i h q => absurd q (Nat.not_lt_zero _)) (fun i h q => absurd h (by omega))
theorem below_at {xs : Array Nat} (hr : Ris xs.toList) {i j : Nat} (h : xs[i]? = some j) : below xs j = i := by
  obtain ⟨hi, e⟩ := Array.getElem?_eq_some_iff.mp h
  obtain ⟨h1, h2, h3⟩ := below_spec hr j
  rcases Nat.lt_trichotomy (below xs j) i with c | c | c
  · have := h3 _ (by omega) (Nat.le_refl (below xs j))
    have := hr.get (i := below xs j) (j := i) (by omega) hi c
    omega
  · exact c
  · have := h2 i hi c
    omega
theorem slot_live {t : SetTable} (hr : Ris t.place.toList) {i j : Nat} (h : t.place[i]? = some j) : t.slot j = .live i := by
  unfold SetTable.slot
  dsimp only
  rw [below_at hr h, h]
  simp
theorem slot_empty {t : SetTable} (hd : t.dummies = #[]) {j : Nat} (h : j ∉ t.place.toList) : t.slot j = .empty := by
  unfold SetTable.slot
  dsimp only
  have e : (t.place[below t.place j]? == some j) = false := by
    rw [beq_eq_false_iff_ne]
    intro q
    obtain ⟨hi, e⟩ := Array.getElem?_eq_some_iff.mp q
    exact h (by rw [← e]; simp)
  rw [e, hd]
  simp [has]
theorem slot_mem {t : SetTable} (hr : Ris t.place.toList) {j : Nat} (h : j ∈ t.place.toList) : ∃ i, t.place[i]? = some j ∧ t.slot j = .live i := by
  obtain ⟨i, hi, e⟩ := List.getElem_of_mem h
  have : t.place[i]? = some j := by rw [← Array.getElem?_toList, List.getElem?_eq_getElem hi, e]
  exact ⟨i, this, slot_live hr this⟩
theorem pigeon : ∀ (n : Nat) (xs : List Nat), (∀ j, j < n → j ∈ xs) → n ≤ xs.length
  | 0, _, _ => Nat.zero_le _
  | n + 1, xs, h => by
    have hn := h n (by omega)
    have := pigeon n (xs.erase n) fun j hj => (List.mem_erase_of_ne (by omega)).mpr (h j (by omega))
    rw [List.length_erase_of_mem hn] at this
    have : 0 < xs.length := List.length_pos_of_mem hn
    omega
theorem some_free {mask : Nat} {xs : List Nat} (h : xs.length ≤ mask) : ∃ j, j ≤ mask ∧ j ∉ xs := by
  refine Classical.byContradiction fun c => ?_
  have := pigeon (mask + 1) xs fun j hj => Classical.byContradiction fun q => c ⟨j, by omega, q⟩
  omega
structure Good (t : SetTable) (hs : List Int) : Prop where
  pw : ∃ k, 3 ≤ k ∧ t.mask + 1 = 2 ^ k
  dum : t.dummies = #[]
  ris : Ris t.place.toList
  le : ∀ j ∈ t.place.toList, j ≤ t.mask
  len : t.place.size = hs.length
  room : t.place.size ≤ t.mask
  reach : ∀ x ∈ t.place.toList.zip hs, ∃ q, pos t.mask x.2 q = x.1 ∧ ∀ m, m < q → pos t.mask x.2 m ∈ t.place.toList
theorem Good.free {t : SetTable} {hs : List Int} (g : Good t hs) (h : Int) : ∃ n, n < 10 * (t.mask + 14) ∧ pos t.mask h n ∉ t.place.toList ∧ ∀ m, m < n → pos t.mask h m ∈ t.place.toList := by
  obtain ⟨k, _, hk⟩ := g.pw
  exact first_free hk h (some_free (by rw [Array.length_toList]; exact g.room))
theorem Good.odd {t : SetTable} {hs : List Int} (g : Good t hs) : t.gaveWay = false := by
  obtain ⟨k, h3, hk⟩ := g.pw
  obtain ⟨j, rfl⟩ : ∃ j, k = j + 1 := ⟨k - 1, by omega⟩
  rw [Nat.pow_succ] at hk
  unfold SetTable.gaveWay
  rw [beq_eq_false_iff_ne]
  omega
theorem Good.fits {t : SetTable} {hs : List Int} (g : Good t hs) : t.fits hs.length = true := by
  unfold SetTable.fits SetTable.fill
  rw [g.dum, g.len]
  have := g.room
  rw [g.len] at this
  simp [this]
theorem probe_go {t : SetTable} {hs : List Int} (g : Good t hs) (h : Int) {N : Nat} (hN : pos t.mask h N ∉ t.place.toList) (hO : ∀ m, m < N → pos t.mask h m ∈ t.place.toList) (hashAt : Nat → Int) :
    ∀ fuel q, q ≤ N → N - q < fuel →
      (probe.go t hashAt h fuel (itr t.mask q (st t.mask h)) = some (.empty (pos t.mask h N) none) ∧ ∀ m i, q ≤ m → m < N → t.slot (pos t.mask h m) = .live i → hashAt i ≠ h) ∨
      ∃ m i, q ≤ m ∧ m < N ∧ t.slot (pos t.mask h m) = .live i ∧ hashAt i = h ∧ probe.go t hashAt h fuel (itr t.mask q (st t.mask h)) = some (.candidate (pos t.mask h m) i (itr t.mask (m + 1) (st t.mask h))) ∧
        ∀ m' i, q ≤ m' → m' < m → t.slot (pos t.mask h m') = .live i → hashAt i ≠ h
  | 0, q, h1, h2 => absurd h2 (Nat.not_lt_zero _)
  | fuel + 1, q, h1, h2 => by
    unfold probe.go
    by_cases e : q = N
    · subst e
      rw [show t.slot (itr t.mask q (st t.mask h)).j = .empty from slot_empty g.dum hN]
      refine .inl ⟨?_, fun m i a b => absurd b (by omega)⟩
      show some (Met.empty (itr t.mask q (st t.mask h)).j (itr t.mask q (st t.mask h)).dummy) = _
      rw [itr_dummy]; rfl
    · obtain ⟨i, hi, hs'⟩ := slot_mem g.ris (hO q (by omega))
      rw [show t.slot (itr t.mask q (st t.mask h)).j = .live i from hs']
      dsimp only
      rw [show t.advance (itr t.mask q (st t.mask h)) = itr t.mask (q + 1) (st t.mask h) by rw [advance_eq, ← itr_succ]]
      by_cases c : hashAt i = h
      · rw [if_pos (by rw [c]; exact beq_self_eq_true h)]
        exact .inr ⟨q, i, Nat.le_refl _, by omega, hs', c, rfl, fun m' i a b => absurd b (by omega)⟩
      · rw [if_neg (by simpa using c)]
        rcases probe_go g h hN hO hashAt fuel (q + 1) (by omega) (by omega) with ⟨a, b⟩ | ⟨m, i', a1, a2, a3, a4, a5, a6⟩
        · refine .inl ⟨a, fun m i' h1' h2' h3' => ?_⟩
          by_cases z : m = q
          · subst z; rw [hs'] at h3'; cases h3'; exact c
          · exact b m i' (by omega) h2' h3'
        · refine .inr ⟨m, i', by omega, a2, a3, a4, a5, fun m' i'' h1' h2' h3' => ?_⟩
          by_cases z : m' = q
          · subst z; rw [hs'] at h3'; cases h3'; exact c
          · exact a6 m' i'' (by omega) h2' h3'
theorem toList_insertAt {α : Type} (xs : Array α) (p : Nat) (x : α) : (insertAt xs p x).toList = xs.toList.take p ++ x :: xs.toList.drop p := by
  unfold insertAt
  simp [Array.toList_extract, List.take_of_length_le]
theorem ris_insert {xs : Array Nat} (hr : Ris xs.toList) {j : Nat} (hn : j ∉ xs.toList) : Ris (insertAt xs (below xs j) j).toList := by
  obtain ⟨h1, h2, h3⟩ := below_spec hr j
  rw [toList_insertAt]
  unfold Ris at *
  have low : ∀ a ∈ xs.toList.take (below xs j), a < j := fun a ha => by
    obtain ⟨i, hi, e⟩ := List.getElem_of_mem ha
    rw [List.length_take] at hi
    rw [List.getElem_take] at e
    have := h2 i (by rw [Array.length_toList] at hi; omega) (by omega)
    rw [← e]; simpa using this
  have high : ∀ a ∈ xs.toList.drop (below xs j), j < a := fun a ha => by
    have hm := List.mem_of_mem_drop ha
    obtain ⟨i, hi, e⟩ := List.getElem_of_mem ha
    rw [List.length_drop, Array.length_toList] at hi
    rw [List.getElem_drop] at e
    have := h3 (below xs j + i) (by omega) (by omega)
    have e' : xs[below xs j + i] = a := by rw [← e]; simp
    rcases Nat.lt_or_ge j a with q | q
    · exact q
    · exact absurd (by rw [show j = a by omega]; exact hm) hn
  rw [List.pairwise_append]
  refine ⟨hr.sublist (List.take_sublist _ _), ?_, fun a ha b hb => ?_⟩
  · rw [List.pairwise_cons]
    exact ⟨high, hr.sublist (List.drop_sublist _ _)⟩
  · rcases List.mem_cons.mp hb with rfl | hb
    · exact low a ha
    · exact Nat.lt_trans (low a ha) (high b hb)
def insL {α : Type} (xs : List α) (p : Nat) (x : α) : List α := xs.take p ++ x :: xs.drop p
theorem insL_perm {α : Type} (xs : List α) (p : Nat) (x : α) : (insL xs p x).Perm (x :: xs) := by
  unfold insL
  refine List.perm_middle.trans ?_
  rw [List.take_append_drop]
theorem zip_insL {α β : Type} {xs : List α} {ys : List β} (h : xs.length = ys.length) (p : Nat) (x : α) (y : β) : (insL xs p x).zip (insL ys p y) = insL (xs.zip ys) p (x, y) := by
  unfold insL
  rw [List.zip_append (by simp [h]), List.zip_cons_cons]
  simp only [List.zip, List.take_zipWith, List.drop_zipWith]
theorem Good.put {t : SetTable} {hs : List Int} (g : Good t hs) {h : Int} {n : Nat} (hn : pos t.mask h n ∉ t.place.toList) (ho : ∀ m, m < n → pos t.mask h m ∈ t.place.toList) (hr : t.place.size < t.mask) (pl : Bool) :
    Good { (t.put (pos t.mask h n)).1 with plain := pl } (insL hs (below t.place (pos t.mask h n)) h) := by
  have hl : t.place.toList.length = hs.length := by rw [Array.length_toList]; exact g.len
  have e : (insertAt t.place (below t.place (pos t.mask h n)) (pos t.mask h n)).toList = insL t.place.toList (below t.place (pos t.mask h n)) (pos t.mask h n) := toList_insertAt _ _ _
  have mem : ∀ a, a ∈ (insertAt t.place (below t.place (pos t.mask h n)) (pos t.mask h n)).toList ↔ a = pos t.mask h n ∨ a ∈ t.place.toList := fun a => by
    rw [e, (insL_perm _ _ _).mem_iff, List.mem_cons]
  have ln : (insertAt t.place (below t.place (pos t.mask h n)) (pos t.mask h n)).size = t.place.size + 1 := by
    rw [← Array.length_toList, e, (insL_perm _ _ _).length_eq, List.length_cons, Array.length_toList]
  refine ⟨g.pw, ?_, ris_insert g.ris hn, fun j hj => ?_, ?_, ?_, fun x hx => ?_⟩
  · show (if has t.dummies (pos t.mask h n) = true then eraseAt t.dummies (below t.dummies (pos t.mask h n)) else t.dummies) = #[]
    rw [g.dum]; simp [has]
  · rcases (mem j).mp hj with rfl | q
    · exact (pos_le _ _ _).1
    · exact g.le j q
  · show (insertAt t.place _ _).size = _
    rw [ln, (insL_perm _ _ _).length_eq, List.length_cons, g.len]
  · show (insertAt t.place _ _).size ≤ t.mask
    rw [ln]; exact hr
  · show ∃ q, pos t.mask x.2 q = x.1 ∧ ∀ m, m < q → pos t.mask x.2 m ∈ (insertAt t.place _ _).toList
    have hx' : x ∈ (insertAt t.place (below t.place (pos t.mask h n)) (pos t.mask h n)).toList.zip (insL hs (below t.place (pos t.mask h n)) h) := hx
    rw [e, zip_insL hl, (insL_perm _ _ _).mem_iff, List.mem_cons] at hx'
    rcases hx' with rfl | q
    · exact ⟨n, rfl, fun m hm => (mem _).mpr (.inr (ho m hm))⟩
    · obtain ⟨q', a, b⟩ := g.reach x q
      exact ⟨q', a, fun m hm => (mem _).mpr (.inr (b m hm))⟩
end ST
namespace ST
open PySem PySem.SetTable
abbrev Ow := Array (Option Nat)
def taken (o : Ow) : List Nat := (List.range o.size).filter fun j => (o.getD j none).isSome
theorem mem_taken {o : Ow} {j : Nat} : j ∈ taken o ↔ ∃ i, o[j]? = some (some i) := by
  unfold taken
  rw [List.mem_filter, List.mem_range]
  constructor
  · rintro ⟨h1, h2⟩
    have e : o.getD j none = o[j] := by simp [Array.getD, h1]
    rw [e] at h2
    obtain ⟨i, hi⟩ := Option.isSome_iff_exists.mp h2
    exact ⟨i, by rw [Array.getElem?_eq_getElem h1, hi]⟩
  · rintro ⟨i, hi⟩
    obtain ⟨h1, e⟩ := Array.getElem?_eq_some_iff.mp hi
    refine ⟨h1, ?_⟩
    simp [Array.getD, h1, e]
theorem free_test {o : Ow} {j : Nat} (h : j < o.size) : ((o.getD j (some 0)).isNone = true ↔ j ∉ taken o) := by
  rw [mem_taken]
  have e : o.getD j (some 0) = o[j] := by simp [Array.getD, h]
  rw [e, Array.getElem?_eq_getElem h]
  cases o[j] <;> simp
theorem free_go {mask : Nat} {o : Ow} (hsz : o.size = mask + 1) (h : Int) : ∀ m fuel i p n, m < fuel → i ≤ mask → itr mask n (st mask h) = blockAt mask i p → (bk mask m (i, p)).1 ∉ taken o →
    ∃ N, n ≤ N ∧ layClean.free mask o fuel i p = some (pos mask h N) ∧ pos mask h N ∉ taken o ∧ ∀ q, n ≤ q → q < N → pos mask h q ∈ taken o
  | m, 0, i, p, n, hf, hi, hn, hb => absurd hf (Nat.not_lt_zero _)
  | m, fuel + 1, i, p, n, hf, hi, hn, hb => by
    have hrun : ∀ k, k ≤ runEnd mask i - i → pos mask h (n + k) = i + k := fun k hk => by
      show (itr mask (n + k) (st mask h)).j = i + k
      rw [itr_add, hn, itr_run mask k (blockAt mask i p) hk]
      rfl
    have hre : i ≤ runEnd mask i ∧ runEnd mask i ≤ mask := by unfold runEnd; split <;> omega
    have ht : ∀ k, k ≤ runEnd mask i - i → ((o.getD (i + k) (some 0)).isNone = true ↔ pos mask h (n + k) ∉ taken o) := fun k hk => by
      rw [hrun k hk]; exact free_test (by omega)
    unfold layClean.free
    cases hf' : (List.range (runEnd mask i + 1 - i)).find? fun k => (o.getD (i + k) (some 0)).isNone with
    | some k =>
      obtain ⟨a, b, c⟩ := List.find?_range_eq_some.mp hf'
      rw [List.mem_range] at b
      refine ⟨n + k, by omega, ?_, (ht k (by omega)).mp a, fun q h1 h2 => ?_⟩
      · rw [hrun k (by omega)]
      · have d := c (q - n) (by omega)
        have z := ht (q - n) (by omega)
        rw [show n + (q - n) = q by omega] at z
        refine Classical.byContradiction fun y => ?_
        rw [z.mpr y] at d
        cases d
    | none =>
      have all : ∀ k, k ≤ runEnd mask i - i → pos mask h (n + k) ∈ taken o := fun k hk => by
        have d := List.find?_range_eq_none.mp hf' k (by omega)
        have z := ht k hk
        refine Classical.byContradiction fun y => ?_
        rw [z.mpr y] at d
        cases d
      dsimp only
      cases m with
      | zero =>
        have := all 0 (Nat.zero_le _)
        rw [hrun 0 (Nat.zero_le _)] at this
        exact absurd this hb
      | succ m =>
        have hl : (leap mask i p).1 ≤ mask := Nat.le_of_lt_succ (Nat.mod_lt _ (by omega))
        obtain ⟨N, a, b, c, d⟩ := free_go hsz h m fuel (leap mask i p).1 (leap mask i p).2 (n + (runEnd mask i - i + 1)) (by omega) hl (by rw [itr_add, hn, itr_block]) hb
        refine ⟨N, by omega, b, c, fun q h1 h2 => ?_⟩
        by_cases z : q < n + (runEnd mask i - i + 1)
        · have := all (q - n) (by omega)
          rwa [show n + (q - n) = q by omega] at this
        · exact d q (by omega) h2
theorem covers_bk {mask k : Nat} (hm : mask + 1 = 2 ^ k) (h : Int) {j : Nat} (hj : j ≤ mask) : ∃ m, m < mask + 15 ∧ (bk mask m (bits h % (mask + 1), bits h)).1 = j := by
  have hp : (bk mask 13 (bits h % (mask + 1), bits h)).2 = 0 := by
    rw [bk_perturb]
    refine Nat.div_eq_of_lt (Nat.lt_of_lt_of_le (bits_lt h) (by decide))
  have hlt : (bk mask 13 (bits h % (mask + 1), bits h)).1 < mask + 1 := by
    show (bk mask (12 + 1) _).1 < _
    rw [bk_add]
    show (leap mask _ _).1 < _
    exact Nat.mod_lt _ (by omega)
  generalize hX : bk mask 13 (bits h % (mask + 1), bits h) = X at hp hlt
  obtain ⟨x, p⟩ := X
  dsimp only at hp hlt
  subst hp
  obtain ⟨n, hn, e⟩ := reach_mod k x j (by omega)
  rw [← hm] at hn e
  refine ⟨13 + n, by omega, ?_⟩
  rw [bk_add, hX]
  show (bk mask n (x, 0)).1 = j
  rw [bk_zero _ _ _ hlt, e]
theorem free_some {mask k : Nat} (hm : mask + 1 = 2 ^ k) {o : Ow} (hsz : o.size = mask + 1) (ho : ∃ j, j ≤ mask ∧ j ∉ taken o) (h : Int) :
    ∃ N, layClean.free mask o (turns mask) (bits h % (mask + 1)) (bits h) = some (pos mask h N) ∧ pos mask h N ∉ taken o ∧ ∀ q, q < N → pos mask h q ∈ taken o := by
  obtain ⟨j, hj, hn⟩ := ho
  obtain ⟨m, h1, h2⟩ := covers_bk hm h hj
  obtain ⟨N, _, b, c, d⟩ := free_go hsz h m (turns mask) (bits h % (mask + 1)) (bits h) 0 (by unfold turns; omega) (Nat.le_of_lt_succ (Nat.mod_lt _ (by omega))) rfl (by rw [h2]; exact hn)
  exact ⟨N, b, c, fun q hq => d q (Nat.zero_le _) hq⟩
structure Laid (mask : Nat) (hs : List Int) (o : Ow) (n : Nat) : Prop where
  sz : o.size = mask + 1
  lt : ∀ j i : Nat, o[j]? = some (some i) → i < n
  all : ∀ i, i < n → ∃ j : Nat, o[j]? = some (some i)
  inj : ∀ j j' i : Nat, o[j]? = some (some i) → o[j']? = some (some i) → j = j'
  reach : ∀ (j i : Nat) (h : Int), o[j]? = some (some i) → hs[i]? = some h → ∃ q, pos mask h q = j ∧ ∀ m, m < q → pos mask h m ∈ taken o
theorem taken_length {mask : Nat} {hs : List Int} {o : Ow} {n : Nat} (L : Laid mask hs o n) : (taken o).length ≤ n := by
  have hnd : (taken o).Nodup := List.Nodup.sublist List.filter_sublist List.nodup_range
  have key : ∀ (l : List Nat) (n : Nat), l.Nodup → (∀ j ∈ l, ∃ i : Nat, i < n ∧ o[j]? = some (some i)) → l.length ≤ n := by
    intro l
    induction l with
    | nil => intro n _ _; exact Nat.zero_le _
    | cons a r ih =>
      intro n hd hl
      have own : ∀ j ∈ a :: r, ∃ i : Nat, i < n ∧ o[j]? = some (some i) := hl
      let f : Nat → Nat := fun j => match o[j]? with | some (some i) => i | _ => 0
      have hf : ∀ j ∈ a :: r, o[j]? = some (some (f j)) := fun j hj => by
        obtain ⟨i, _, e⟩ := own j hj
        show o[j]? = some (some (match o[j]? with | some (some i) => i | _ => 0))
        rw [e]
      have h1 : ((a :: r).map f).Nodup := by
        rw [List.nodup_iff_pairwise_ne, List.pairwise_map]
        refine List.Pairwise.imp_of_mem (R := fun x y => x ≠ y) (fun {x y} hx hy hne e => hne ?_) (List.nodup_iff_pairwise_ne.mp hd)
        exact L.inj x y (f x) (hf x hx) (by rw [e]; exact hf y hy)
      have h2 : ∀ i ∈ (a :: r).map f, i < n := fun i hi => by
        obtain ⟨j, hj, rfl⟩ := List.mem_map.mp hi
        obtain ⟨i', h, e⟩ := own j hj
        have := hf j hj
        rw [e] at this; cases this; exact h
      have p : ((a :: r).map f).length ≤ (List.range n).length := List.Nodup.length_le_of_subset h1 fun i hi => List.mem_range.mpr (h2 i hi)
      rwa [List.length_map, List.length_range] at p
  exact key _ n hnd fun j hj => let ⟨i, e⟩ := mem_taken.mp hj; ⟨i, L.lt j i e, e⟩
end ST
namespace ST
open PySem PySem.SetTable
theorem taken_set {o : Ow} {j n : Nat} (hj : j < o.size) (a : Nat) : a ∈ taken (o.setIfInBounds j (some n)) ↔ a = j ∨ a ∈ taken o := by
  rw [mem_taken, mem_taken]
  by_cases e : a = j
  · subst e
    simp [Array.getElem?_setIfInBounds, hj]
  · have : (o.setIfInBounds j (some n))[a]? = o[a]? := by rw [Array.getElem?_setIfInBounds, if_neg (fun h => e h.symm)]
    rw [this]; simp [e]
theorem Laid.more {mask k : Nat} {hs : List Int} {o : Ow} {n : Nat} (hm : mask + 1 = 2 ^ k) (L : Laid mask hs o n) (hn : n ≤ mask) {h : Int} (hh : hs[n]? = some h) :
    ∃ j, layClean.free mask o (turns mask) (bits h % (mask + 1)) (bits h) = some j ∧ Laid mask hs (o.setIfInBounds j (some n)) (n + 1) := by
  obtain ⟨N, a, b, c⟩ := free_some hm L.sz (some_free (Nat.le_trans (taken_length L) hn)) h
  have hj : pos mask h N < o.size := by rw [L.sz]; exact Nat.lt_succ_of_le (pos_le mask h N).1
  refine ⟨_, a, ?_⟩
  generalize hJ : pos mask h N = J at *
  have at_ : ∀ x i : Nat, (o.setIfInBounds J (some n))[x]? = some (some i) → (x = J ∧ i = n) ∨ (x ≠ J ∧ o[x]? = some (some i)) := fun x i e => by
    rw [Array.getElem?_setIfInBounds] at e
    by_cases z : J = x
    · subst z
      rw [if_pos rfl, if_pos hj] at e
      cases e; exact .inl ⟨rfl, rfl⟩
    · rw [if_neg z] at e
      exact .inr ⟨fun q => z q.symm, e⟩
  have hJf : ∀ i, o[J]? ≠ some (some i) := fun i e => b (mem_taken.mpr ⟨i, e⟩)
  refine ⟨by rw [Array.size_setIfInBounds]; exact L.sz, fun x i e => ?_, fun i hi => ?_, fun x y i e1 e2 => ?_, fun x i h' e1 e2 => ?_⟩
  · rcases at_ x i e with ⟨_, rfl⟩ | ⟨_, e⟩
    · exact Nat.lt_succ_self _
    · exact Nat.lt_succ_of_lt (L.lt x i e)
  · by_cases z : i = n
    · subst z
      exact ⟨J, by rw [Array.getElem?_setIfInBounds, if_pos rfl, if_pos hj]⟩
    · obtain ⟨x, e⟩ := L.all i (by omega)
      refine ⟨x, ?_⟩
      rw [Array.getElem?_setIfInBounds, if_neg (fun q => by subst q; exact hJf i e)]
      exact e
  · rcases at_ x i e1 with ⟨rfl, rfl⟩ | ⟨n1, f1⟩
    · rcases at_ y i e2 with ⟨rfl, _⟩ | ⟨n2, e2⟩
      · rfl
      · exact absurd (L.lt y i e2) (Nat.lt_irrefl _)
    · rcases at_ y i e2 with ⟨rfl, rfl⟩ | ⟨n2, f2⟩
      · exact absurd (L.lt x i f1) (Nat.lt_irrefl _)
      · exact L.inj x y i f1 f2
  · rcases at_ x i e1 with ⟨rfl, rfl⟩ | ⟨n1, e1⟩
    · rw [hh] at e2; cases e2
      exact ⟨N, hJ, fun m hm => (taken_set hj _).mpr (.inr (c m hm))⟩
    · obtain ⟨q, q1, q2⟩ := L.reach x i h' e1 e2
      exact ⟨q, q1, fun m hm => (taken_set hj _).mpr (.inr (q2 m hm))⟩
theorem layClean_fold {mask k : Nat} (hm : mask + 1 = 2 ^ k) {hs : List Int} (hl : hs.length ≤ mask + 1) : ∀ (rest pre : List Int) (o : Ow), hs = pre ++ rest → Laid mask hs o pre.length →
    ∃ o', rest.foldl (fun acc h => do let (owner, k) ← acc; let j ← layClean.free mask owner (turns mask) (bits h % (mask + 1)) (bits h); pure (owner.setIfInBounds j (some k), k + 1)) (some (o, pre.length)) = some (o', hs.length) ∧ Laid mask hs o' hs.length
  | [], pre, o, e, L => by
    rw [List.append_nil] at e; subst e
    exact ⟨o, rfl, L⟩
  | h :: rest, pre, o, e, L => by
    have hh : hs[pre.length]? = some h := by rw [e]; simp
    have hlen : pre.length ≤ mask := by
      have := congrArg List.length e
      rw [List.length_append, List.length_cons] at this
      omega
    obtain ⟨j, a, b⟩ := L.more hm hlen hh
    obtain ⟨o', c, d⟩ := layClean_fold hm hl rest (pre ++ [h]) (o.setIfInBounds j (some pre.length)) (by rw [List.append_assoc]; exact e) (by rw [List.length_append]; exact b)
    refine ⟨o', ?_, d⟩
    rw [List.foldl_cons, ← c]
    congr 1
    show (do let j ← layClean.free mask o (turns mask) (bits h % (mask + 1)) (bits h); pure (o.setIfInBounds j (some pre.length), pre.length + 1)) = _
    rw [a, List.length_append]
    rfl
theorem layClean_some {mask k : Nat} (hm : mask + 1 = 2 ^ k) {hs : Array Int} (hl : hs.size ≤ mask + 1) : ∃ o, layClean mask hs = some o ∧ Laid mask hs.toList o hs.size := by
  have L0 : Laid mask hs.toList (Array.replicate (mask + 1) none) ([] : List Int).length :=
    ⟨by simp, fun j i e => by
      rw [Array.getElem?_replicate] at e
      split at e <;> simp at e, fun i hi => absurd hi (Nat.not_lt_zero _), fun j j' i e => by
      rw [Array.getElem?_replicate] at e
      split at e <;> simp at e, fun j i h e => by
      rw [Array.getElem?_replicate] at e
      split at e <;> simp at e⟩
  obtain ⟨o, a, b⟩ := layClean_fold hm (by simpa using hl) hs.toList [] _ rfl L0
  refine ⟨o, ?_, by simpa using b⟩
  unfold layClean
  rw [← Array.foldl_toList]
  show Option.map _ (List.foldl _ (some (Array.replicate (mask + 1) none, ([] : List Int).length)) hs.toList) = _
  rw [a]
  rfl
theorem sizeAbove_go (w : Nat) : ∀ fuel k, w < 2 ^ fuel * 2 ^ k → ∃ k', k ≤ k' ∧ sizeAbove.go w fuel (2 ^ k) = 2 ^ k' ∧ w < 2 ^ k' ∧ (2 ^ k' = 2 ^ k ∨ 2 ^ k' ≤ 2 * w)
  | 0, k, h => ⟨k, Nat.le_refl _, rfl, by simpa using h, .inl rfl⟩
  | fuel + 1, k, h => by
    unfold sizeAbove.go
    by_cases c : 2 ^ k ≤ w
    · rw [if_pos c, ← Nat.pow_succ]
      obtain ⟨k', a, b, d, e⟩ := sizeAbove_go w fuel (k + 1) (by rw [Nat.pow_succ] at h ⊢; rw [Nat.mul_comm (2 ^ k) 2, ← Nat.mul_assoc]; exact h)
      refine ⟨k', by omega, b, d, .inr ?_⟩
      rcases e with e | e
      · rw [e, Nat.pow_succ]; omega
      · exact e
    · rw [if_neg c]
      exact ⟨k, Nat.le_refl _, rfl, by omega, .inl rfl⟩
theorem sizeAbove_spec {w : Nat} (h : w < 2 ^ 60) : ∃ k, 3 ≤ k ∧ sizeAbove w = 2 ^ k ∧ w < 2 ^ k ∧ (2 ^ k = 8 ∨ 2 ^ k ≤ 2 * w) :=
  sizeAbove_go w 64 3 (Nat.lt_of_lt_of_le h (by decide))
def liveOf (mask : Nat) (o : Ow) : List (Nat × Nat) := (List.range (mask + 1)).filterMap fun j => (o.getD j none).map (j, ·)
theorem mem_live {mask : Nat} {o : Ow} (hs : o.size = mask + 1) {j i : Nat} : (j, i) ∈ liveOf mask o ↔ o[j]? = some (some i) := by
  unfold liveOf
  rw [List.mem_filterMap]
  constructor
  · rintro ⟨a, ha, e⟩
    rw [List.mem_range] at ha
    have g : o.getD a none = o[a] := by simp [Array.getD, show a < o.size by omega]
    rw [g, Option.map_eq_some_iff] at e
    obtain ⟨b, e1, e2⟩ := e
    cases e2
    rw [Array.getElem?_eq_getElem (by omega), e1]
  · intro e
    obtain ⟨h1, e1⟩ := Array.getElem?_eq_some_iff.mp e
    refine ⟨j, List.mem_range.mpr (by omega), ?_⟩
    have g : o.getD j none = o[j] := by simp [Array.getD, h1]
    rw [g, e1]; rfl
theorem live_ris (mask : Nat) (o : Ow) : Ris ((liveOf mask o).map (·.1)) := by
  unfold liveOf Ris
  have key : ∀ l : List Nat, l.Pairwise (· < ·) → ((l.filterMap fun j => (o.getD j none).map (j, ·)).map (·.1)).Pairwise (· < ·) ∧ ∀ x ∈ (l.filterMap fun j => (o.getD j none).map (j, ·)).map (·.1), x ∈ l := by
    intro l
    induction l with
    | nil => intro _; exact ⟨by simp, by simp⟩
    | cons a r ih =>
      intro h
      rw [List.pairwise_cons] at h
      obtain ⟨p, q⟩ := ih h.2
      rw [List.filterMap_cons]
      cases hc : (o.getD a none).map (a, ·) with
      | none => exact ⟨p, fun x hx => List.mem_cons_of_mem _ (q x hx)⟩
      | some y =>
        rw [Option.map_eq_some_iff] at hc
        obtain ⟨b, _, rfl⟩ := hc
        rw [List.map_cons, List.pairwise_cons]
        refine ⟨⟨fun x hx => h.1 x (q x hx), p⟩, fun x hx => ?_⟩
        rcases List.mem_cons.mp hx with rfl | hx
        · exact List.mem_cons_self
        · exact List.mem_cons_of_mem _ (q x hx)
  exact (key _ List.pairwise_lt_range).1
theorem range_picks {α : Type} (l : List α) : (List.range l.length).filterMap (fun i => l[i]?) = l := by
  induction l with
  | nil => rfl
  | cons a r ih =>
    rw [List.length_cons, List.range_succ_eq_map, List.filterMap_cons]
    simp only [List.getElem?_cons_zero, List.filterMap_map]
    congr 1
theorem laid_good {mask k : Nat} (h3 : 3 ≤ k) (hm : mask + 1 = 2 ^ k) {es : Array (Int × Value)} (hl : es.size ≤ mask) (f mv : Nat) (ld pl : Bool) :
    ∃ t order, laid mask f mv ld pl (es.map (·.1)) = some (t, order) ∧ t.mask = mask ∧ List.Perm (order.filterMap (es[·]?)).toList es.toList ∧ Good t ((order.filterMap (es[·]?)).toList.map (·.1)) := by
  obtain ⟨o, a, L⟩ := layClean_some hm (hs := es.map (·.1)) (by rw [Array.size_map]; omega)
  rw [Array.size_map] at L
  have hord : ((liveOf mask o).map (·.2)).Nodup := by
    rw [List.nodup_iff_pairwise_ne, List.pairwise_map]
    have hp : (liveOf mask o).Pairwise fun x y => x.1 < y.1 := List.pairwise_map.mp (live_ris mask o)
    refine List.Pairwise.imp_of_mem (fun {x y} hx hy hlt e => ?_) hp
    have e1 := (mem_live L.sz (j := x.1) (i := x.2)).mp hx
    have e2 := (mem_live L.sz (j := y.1) (i := y.2)).mp hy
    rw [← e] at e2
    have := L.inj _ _ _ e1 e2
    omega
  have hperm : List.Perm ((liveOf mask o).map (·.2)) (List.range es.size) := by
    refine (List.perm_ext_iff_of_nodup hord List.nodup_range).mpr fun i => ?_
    rw [List.mem_map, List.mem_range]
    constructor
    · rintro ⟨x, hx, rfl⟩
      exact L.lt _ _ ((mem_live L.sz (j := x.1) (i := x.2)).mp hx)
    · intro hi
      obtain ⟨j, e⟩ := L.all i hi
      exact ⟨(j, i), (mem_live L.sz).mpr e, rfl⟩
  refine ⟨{ mask, place := ((liveOf mask o).map (·.1)).toArray, dummies := #[], finger := f, led := ld, moves := mv, plain := pl }, ((liveOf mask o).map (·.2)).toArray, ?_, rfl, ?_, ?_⟩
  · unfold laid
    rw [a]
    rfl
  · have e : ((((liveOf mask o).map (·.2)).toArray).filterMap (es[·]?)).toList = ((liveOf mask o).map (·.2)).filterMap (es[·]?) := by simp
    rw [e]
    refine (hperm.filterMap _).trans ?_
    have := range_picks es.toList
    simp only [Array.length_toList, Array.getElem?_toList] at this
    rw [this]
  · have picks : ∀ l : List (Nat × Nat), (∀ x ∈ l, x.2 < es.size) → (l.map (·.2)).filterMap (es[·]?) = l.map fun x => (es[x.2]?).getD default := by
      intro l
      induction l with
      | nil => intro _; rfl
      | cons x r ih =>
        intro h
        have hx := h x List.mem_cons_self
        rw [List.map_cons, List.filterMap_cons, Array.getElem?_eq_getElem hx, List.map_cons, ih fun y hy => h y (List.mem_cons_of_mem _ hy), Array.getElem?_eq_getElem hx]
        rfl
    have hlt : ∀ x ∈ liveOf mask o, x.2 < es.size := fun x hx => L.lt _ _ ((mem_live L.sz (j := x.1) (i := x.2)).mp hx)
    have e : ((((liveOf mask o).map (·.2)).toArray).filterMap (es[·]?)).toList = (liveOf mask o).map fun x => (es[x.2]?).getD default := by
      rw [← picks _ hlt]; simp
    rw [e]
    have hlen : (liveOf mask o).length = es.size := by
      have := hperm.length_eq
      rw [List.length_map, List.length_range] at this
      exact this
    have hocc : ∀ j, j ∈ taken o → j ∈ (liveOf mask o).map (·.1) := fun j hj => by
      obtain ⟨i, e⟩ := mem_taken.mp hj
      exact List.mem_map.mpr ⟨(j, i), (mem_live L.sz).mpr e, rfl⟩
    refine ⟨⟨k, h3, hm⟩, rfl, by simpa using live_ris mask o, fun j hj => ?_, ?_, ?_, fun x hx => ?_⟩
    · have hj' : j ∈ (liveOf mask o).map (·.1) := by simpa using hj
      obtain ⟨x, hx, rfl⟩ := List.mem_map.mp hj'
      obtain ⟨h1, _⟩ := Array.getElem?_eq_some_iff.mp ((mem_live L.sz (j := x.1) (i := x.2)).mp hx)
      rw [L.sz] at h1
      show x.1 ≤ mask
      omega
    · simp
    · show (((liveOf mask o).map (·.1)).toArray).size ≤ mask
      rw [List.size_toArray, List.length_map, hlen]; exact hl
    · have hz : (((liveOf mask o).map (·.1)).toArray).toList.zip (((liveOf mask o).map fun x => (es[x.2]?).getD default).map (·.1)) = (liveOf mask o).map fun x => (x.1, ((es[x.2]?).getD default).1) := by
        simp [List.zip_map', List.map_map]
      have hx' : x ∈ (liveOf mask o).map fun x => (x.1, ((es[x.2]?).getD default).1) := by rw [← hz]; exact hx
      obtain ⟨y, hy, rfl⟩ := List.mem_map.mp hx'
      have e1 := (mem_live L.sz (j := y.1) (i := y.2)).mp hy
      have hi := hlt y hy
      have e2 : (es.map (·.1)).toList[y.2]? = some ((es[y.2]?).getD default).1 := by
        rw [Array.getElem?_eq_getElem hi]
        simp [hi]
      obtain ⟨q, q1, q2⟩ := L.reach y.1 y.2 _ e1 e2
      refine ⟨q, q1, fun m hm' => ?_⟩
      have := hocc _ (q2 m hm')
      simpa using this
end ST
namespace PySem
section
variable {prog : Program} {w : World} {K : Type} [DecidableEq K] (knd : KeyKind prog w K)
def ElT (h : Heap) (k : List K) (e : Int × Value) : Prop := ∃ b, e.2 = .ref b ∧ IsTupleKey knd h k b ∧ e.1 = tupleKeyHash knd k
def Heap.TupSet (h : Heap) (a : Addr) (S : List K → Bool) (n : Nat) : Prop :=
  ∃ o es ep t, h.get? a = some o ∧ o.ExactSet ∧ o.data = .set es ep t ∧ ST.Good t (es.toList.map (·.1)) ∧ (∀ e ∈ es.toList, ∃ k, ElT knd h k e) ∧ (∀ k, S k = true ↔ ∃ e ∈ es.toList, ElT knd h k e)
    ∧ es.size = n ∧ t.place.size * 5 < t.mask * 3 ∧ (t.mask < 8 ∨ t.mask < 8 * n)
variable {knd} {A : Around} {E : Value → Shared → Prop} {s : Shared}
theorem ElT.inj {h : Heap} {k k' : List K} {e : Int × Value} (x : ElT knd h k e) (y : ElT knd h k' e) : k = k' := by
  obtain ⟨b, e1, t1, _⟩ := x
  obtain ⟨b', e2, t2, _⟩ := y
  rw [e1] at e2; cases e2
  exact t1.inj t2
theorem IsTupleKey.but {h h' : Heap} {ks : List K} {a d : Addr} {o : Obj} {es ep t} (x : IsTupleKey knd h ks a) (ho : h.get? d = some o) (hd : o.data = .set es ep t) (hs : Heap.SameBut d h h') : IsTupleKey knd h' ks a := by
  obtain ⟨o', items, n, ho', hc, hd', hi⟩ := x
  have hne : a ≠ d := by
    rintro rfl
    obtain rfl : o' = o := Option.some.inj (ho'.symm.trans ho)
    rw [hd] at hd'; exact nomatch hd'
  exact ⟨o', items, n, (hs.2 a hne).trans ho', hc, hd', hi⟩
theorem ElT.but {h h' : Heap} {k : List K} {e : Int × Value} {d : Addr} {o : Obj} {es ep t} (x : ElT knd h k e) (ho : h.get? d = some o) (hd : o.data = .set es ep t) (hs : Heap.SameBut d h h') : ElT knd h' k e :=
  let ⟨b, e1, e2, e3⟩ := x; ⟨b, e1, e2.but ho hd hs, e3⟩
theorem ofAClass_val {M : Model} (n : Nat) {v : Value} (h : carriedByValue v = true) : ofAClassStatement n v = pure false := by
  cases v <;> first | (cases n <;> rfl) | simp [carriedByValue] at h
theorem wpAny_ofAClass_tuple {ks : List K} {a : Addr} {Q : Bool → Shared → Prop} (hk : IsTupleKey knd s.heap ks a) (h : Q false s) : wpAny (model prog w) A (ofAClassStatement 8 (.ref a)) Q E s := by
  have hT := hk.typeIs
  obtain ⟨o, items, n, ho, _, hd, hi⟩ := hk
  unfold ofAClassStatement
  refine wpAny_bind (wpAny_typeOf hT ?_)
  dsimp only
  rw [if_pos (by decide)]
  refine wpAny_bind (wpAny_pure ?_)
  simp only [Bool.not_true, Bool.false_eq_true, if_false]
  refine wpAny_bind (wpAny_seqItems ho hd ?_)
  dsimp only
  refine wpAny_bind ?_
  rw [← Array.forIn_toList]
  refine wpAny_forIn_list _ (fun rest r s' => r.1 = none ∧ s' = s ∧ ∀ v ∈ rest, carriedByValue v = true) _ ?_ ?_ _ _ ⟨rfl, rfl, hi.byValue⟩
  · rintro v rest r s' ⟨hr, rfl, hall⟩
    rw [ofAClass_val (M := model prog w) _ (hall v List.mem_cons_self)]
    refine wpAny_bind (wpAny_pure ?_)
    simp only [Bool.false_eq_true, if_false]
    exact wpAny_pure ⟨rfl, rfl, fun u hu' => hall u (List.mem_cons_of_mem _ hu')⟩
  · rintro ⟨r1, r2⟩ s' ⟨hr, rfl, _⟩
    simp only at hr
    subst hr
    exact wpAny_pure h
theorem hashByValue_val (n : Nat) {v : Value} (h : carriedByValue v = true) : ∃ c, hashByValue n v = pure c := by
  cases v <;> first | (cases n <;> exact ⟨_, rfl⟩) | simp [carriedByValue] at h
theorem wpAny_hashByValue_tuple {ks : List K} {a : Addr} {Q : Bool → Shared → Prop} (hk : IsTupleKey knd s.heap ks a) (h : ∀ c, Q c s) : wpAny (model prog w) A (hashByValue 8 (.ref a)) Q E s := by
  have hT := hk.typeIs
  obtain ⟨o, items, n, ho, _, hd, hi⟩ := hk
  unfold hashByValue
  refine wpAny_bind (wpAny_specialOf hT F.slot_tuple_hash.lookup ?_)
  dsimp only
  refine wpAny_bind (wpAny_seqItems ho hd ?_)
  refine wpAny_bind ?_
  show wpAny _ _ (forIn items _ _) _ _ s
  rw [← Array.forIn_toList]
  refine wpAny_forIn_list _ (fun rest r s' => r.1 = none ∧ s' = s ∧ ∀ v ∈ rest, carriedByValue v = true) _ ?_ ?_ _ _ ⟨rfl, rfl, hi.byValue⟩
  · rintro v rest r s' ⟨hr, rfl, hall⟩
    obtain ⟨c, hc⟩ := hashByValue_val 7 (hall v List.mem_cons_self)
    rw [hc]
    refine wpAny_bind (wpAny_pure ?_)
    cases c
    · simp only [Bool.not_false, if_true]
      exact wpAny_pure (wpAny_pure (h _))
    · simp only [Bool.not_true, Bool.false_eq_true, if_false]
      exact wpAny_pure ⟨rfl, rfl, fun u hu' => hall u (List.mem_cons_of_mem _ hu')⟩
  · rintro ⟨r1, r2⟩ s' ⟨hr, rfl, _⟩
    simp only at hr
    subst hr
    exact wpAny_pure (h _)
theorem wpAny_notSeen {k : List K} {b : Addr} {Q : Bool → Shared → Prop} (hk : IsTupleKey knd s.heap k b) {l : List Value} (hl : ∀ v ∈ l, ∃ k' b', v = .ref b' ∧ IsTupleKey knd s.heap k' b') (h : Q false s) :
    wpAny (model prog w) A (searchCouldBeSeen (.ref b) l) Q E s := by
  unfold searchCouldBeSeen
  refine wpAny_bind ?_
  refine wpAny_forIn_list _ (fun rest r s' => r.1 = none ∧ s' = s ∧ ∀ v ∈ rest, ∃ k' b', v = .ref b' ∧ IsTupleKey knd s.heap k' b') _ ?_ ?_ _ _ ⟨rfl, rfl, hl⟩
  · rintro v rest r s' ⟨hr, rfl, hall⟩
    obtain ⟨k', b', rfl, hk'⟩ := hall v List.mem_cons_self
    have more : ∀ u ∈ rest, ∃ k' b', u = Value.ref b' ∧ IsTupleKey knd s'.heap k' b' := fun u hu => hall u (List.mem_cons_of_mem _ hu)
    dsimp only
    split
    · exact wpAny_pure ⟨rfl, rfl, more⟩
    · refine wpAny_bind (wpAny_eqIsQuiet_tuple hk ?_)
      simp only [Bool.not_true, Bool.false_eq_true, if_false]
      refine wpAny_bind (wpAny_eqIsQuiet_tuple hk' ?_)
      simp only [Bool.not_true, Bool.false_eq_true, if_false]
      refine wpAny_bind (wpAny_ofAClass_tuple hk ?_)
      simp only [Bool.false_eq_true, if_false]
      refine wpAny_bind (wpAny_ofAClass_tuple hk' ?_)
      simp only [Bool.false_eq_true, if_false]
      exact wpAny_pure ⟨rfl, rfl, more⟩
  · rintro ⟨r1, r2⟩ s' ⟨hr, rfl, _⟩
    simp only at hr
    subst hr
    exact wpAny_pure h
end
end PySem
namespace PySem
section
variable {prog : Program} {w : World} {K : Type} [DecidableEq K] {knd : KeyKind prog w K} {A : Around} {E : Value → Shared → Prop} {s : Shared}
open ST in
theorem wpAny_setSearch_tup {a b : Addr} {k : List K} {o : Obj} {es : Array (Int × Value)} {ep : Nat} {t : SetTable} {Q : SetFound → Shared → Prop} (hu : A.units < cLine) (ho : s.heap.get? a = some o) (hd : o.data = .set es ep t)
    (g : Good t (es.toList.map (·.1))) (hel : ∀ e ∈ es.toList, ∃ k, ElT knd s.heap k e) (hk : IsTupleKey knd s.heap k b) {N : Nat} (hN : pos t.mask (tupleKeyHash knd k) N ∉ t.place.toList) (hO : ∀ m, m < N → pos t.mask (tupleKeyHash knd k) m ∈ t.place.toList)
    (hb : N < 10 * (t.mask + 15)) (hY : (∃ e ∈ es.toList, ElT knd s.heap k e) → Q (.there none) s) (hNo : (∀ e ∈ es.toList, ¬ ElT knd s.heap k e) → Q (.free (pos t.mask (tupleKeyHash knd k) N) false) s) :
    ∀ fuel q (stand : Option SetTable.Probe), N - q < fuel → q ≤ N → stand.getD (t.probeStart (tupleKeyHash knd k)) = itr t.mask q (st t.mask (tupleKeyHash knd k)) →
      ((∃ e ∈ es.toList, ElT knd s.heap k e) → ∃ m i e, q ≤ m ∧ m < N ∧ t.slot (pos t.mask (tupleKeyHash knd k) m) = .live i ∧ es[i]? = some e ∧ ElT knd s.heap k e) →
      wpAny (model prog w) A (setSearchFrom a (.ref b) (tupleKeyHash knd k) true fuel stand) Q E s
  | 0, q, stand, h1, h2, h3, h4 => absurd h1 (Nat.not_lt_zero _)
  | fuel + 1, q, stand, h1, h2, h3, h4 => by
    have hf : t.fits es.size = true := by have := g.fits; simpa using this
    unfold setSearchFrom
    refine wpAny_bind (wpAny_setState_of ho hd hf ?_)
    dsimp only
    rw [g.odd]
    simp only [Bool.false_eq_true, if_false]
    rw [h3]
    unfold SetTable.probe
    rcases probe_go g (tupleKeyHash knd k) hN hO _ (10 * SetTable.turns t.mask) q h2 (by unfold SetTable.turns; omega) with ⟨e, all⟩ | ⟨m, i, a1, a2, a3, a4, a5, a6⟩
    · rw [e]
      dsimp only
      refine wpAny_pure (hNo fun e he hk' => ?_)
      obtain ⟨m, i, e', b1, b2, b3, b4, b5⟩ := h4 ⟨e, he, hk'⟩
      refine all m i b1 b2 b3 ?_
      show (es[i]?.map (·.1)).getD 0 = _
      rw [b4]
      obtain ⟨_, _, _, z⟩ := b5
      exact z
    · rw [a5]
      dsimp only
      obtain ⟨pi, hpi, hsl⟩ := slot_mem g.ris (hO m a2)
      rw [a3] at hsl
      cases hsl
      have hi : i < es.size := by
        have := (Array.getElem?_eq_some_iff.mp hpi).1
        rw [g.len] at this
        simpa using this
      have hei : es[i]? = some es[i] := Array.getElem?_eq_getElem hi
      have hmem : es[i] ∈ es.toList := by simp
      obtain ⟨k', b', eb, hk', hh'⟩ := hel _ hmem
      have key : ∀ U Y : Sem SetFound, wpAny (model prog w) A Y Q E s → wpAny (model prog w) A (if (!t.led) = true then do
          let c ← searchCouldBeSeen (Value.ref b) (List.map (fun x => x.snd) (Array.filter (fun x => x.fst == tupleKeyHash knd k) es).toList)
          if c = true then U else Y
        else Y) Q E s := fun U Y q' => by
        split
        · refine wpAny_bind (wpAny_notSeen hk (fun v hv => ?_) ?_)
          · obtain ⟨e, he, rfl⟩ := List.mem_map.mp hv
            have he' : e ∈ es := by
              simp at he
              exact he.1
            obtain ⟨k'', b'', e1, e2, _⟩ := hel e (by simpa using he')
            exact ⟨k'', b'', e1, e2⟩
          · simp only [Bool.false_eq_true, if_false]
            exact q'
        · exact q'
      refine key _ _ ?_
      rw [hei]
      dsimp only
      rw [eb]
      refine wpAny_bind (wpAny_holding (wpAny_eqBool_tuple hu hk' hk ?_))
      refine wpAny_bind (wpAny_setState_of ho hd hf ?_)
      dsimp only
      by_cases c : k' = k
      · subst c
        rw [decide_eq_true rfl]
        simp only [Bool.and_self, if_true]
        exact wpAny_pure (hY ⟨_, hmem, b', eb, hk', hh'⟩)
      · rw [decide_eq_false c]
        simp only [Bool.and_false, Bool.false_eq_true, if_false]
        have hsm : t.sameMemory t.moves t.mask = some true := by unfold SetTable.sameMemory; simp
        rw [hsm]
        dsimp only
        rw [if_pos rfl, a3]
        dsimp only
        rw [hei]
        dsimp only
        rw [eb]
        refine wpAny_bind (wpAny_isSame_ref_self ?_)
        rw [if_pos rfl]
        refine wpAny_bind (wpAny_pure ?_)
        dsimp only
        refine wpAny_setSearch_tup hu ho hd g hel hk hN hO hb hY hNo fuel (m + 1) (some _) (by omega) (by omega) rfl fun hx => ?_
        obtain ⟨m', i', e', b1, b2, b3, b4, b5⟩ := h4 hx
        refine ⟨m', i', e', ?_, b2, b3, b4, b5⟩
        rcases Nat.lt_trichotomy m' m with z | z | z
        · refine absurd ?_ (a6 m' i' b1 z b3)
          show (es[i']?.map (·.1)).getD 0 = _
          rw [b4]
          obtain ⟨_, _, _, z'⟩ := b5
          exact z'
        · subst z
          rw [a3] at b3; cases b3
          rw [hei] at b4; cases b4
          exact absurd (ElT.inj ⟨b', eb, hk', hh'⟩ b5) c
        · omega
end
end PySem
namespace PySem
section
variable {prog : Program} {w : World} {K : Type} [DecidableEq K] {knd : KeyKind prog w K} {A : Around} {E : Value → Shared → Prop} {s : Shared}
theorem wpAny_setRelay {a : Addr} {o : Obj} {es : Array (Int × Value)} {ep : Nat} {t : SetTable} {wanted : Nat} {Q : Unit → Shared → Prop} (ho : s.heap.get? a = some o) (hd : o.data = .set es ep t)
    (hf : t.fits es.size = true) (hw : wanted < 100000) (hw2 : 4 * es.size ≤ wanted)
    (h : ∀ es' t', List.Perm es'.toList es.toList → ST.Good t' (es'.toList.map (·.1)) → wanted < t'.mask + 1 → (t'.mask + 1 = 8 ∨ t'.mask + 1 ≤ 2 * wanted) → Q () { s with heap := s.heap.update a (Obj.putSet es' t') }) :
    wpAny (model prog w) A (setRelay a wanted) Q E s := by
  obtain ⟨k, h3, e, lt, le⟩ := ST.sizeAbove_spec (w := wanted) (Nat.lt_of_lt_of_le hw (by decide))
  unfold setRelay
  refine wpAny_bind (wpAny_setState_of ho hd hf ?_)
  dsimp only
  have hsl : ¬ SetTable.sizeAbove wanted > sizeLine := by
    rw [e, sizeLine_eq]
    rcases le with z | z <;> omega
  rw [if_neg hsl]
  have hpos : 0 < 2 ^ k := Nat.two_pow_pos k
  have hm : (2 ^ k - 1) + 1 = 2 ^ k := by omega
  obtain ⟨t', order, el, em, perm, good⟩ := ST.laid_good h3 hm (es := es) (by omega) t.finger (t.movedTo (2 ^ k - 1)) t.led t.plain
  have er : t.relaid (es.map (·.1)) wanted = some (t', order) := by
    unfold SetTable.relaid
    rw [e]; exact el
  rw [er]
  have hsz : (order.filterMap (es[·]?)).size = es.size := by
    rw [← Array.length_toList, perm.length_eq, Array.length_toList]
  show wpAny (model prog w) A ((do
      let es' := order.filterMap (es[·]?)
      if es'.size != es.size then unsupported "internal:set-table-lost-an-element"
      pure (es', t')) >>= fun x => storeSet a x.1 x.2) Q E s
  dsimp only
  rw [hsz]
  simp only [bne_self_eq_false, Bool.false_eq_true, if_false]
  refine wpAny_bind (wpAny_pure ?_)
  refine wpAny_storeSet_of ho hd (h _ _ perm good (by rw [em, hm]; exact lt) (by rw [em, hm]; exact le)) ?_
  rw [hsz, sizeLine_eq]; omega
theorem TupSet_store {h : Heap} {a : Addr} {o : Obj} {es : Array (Int × Value)} {ep : Nat} {t : SetTable} (ho : h.get? a = some o) (hex : o.ExactSet) (hd : o.data = .set es ep t) (es' : Array (Int × Value)) (t' : SetTable) :
    (h.update a (Obj.putSet es' t')).get? a = some { o with data := .set es' (ep + 1) t' } ∧ Heap.SameBut a h (h.update a (Obj.putSet es' t')) ∧ ({ o with data := .set es' (ep + 1) t' } : Obj).ExactSet := by
  have hg : (h.update a (Obj.putSet es' t')).get? a = some { o with data := .set es' (ep + 1) t' } := by
    have := Heap.get?_update_self (Obj.putSet es' t') ho (by rw [putSet_of es' t' hd]; rfl)
    rw [putSet_of es' t' hd] at this; exact this
  exact ⟨hg, Heap.SameBut.update h a _, hex⟩
open ST in
theorem wpAny_setAdd_tup {a b : Addr} {k : List K} {S : List K → Bool} {n : Nat} {Q : Bool → Shared → Prop} (hu : A.units < cLine) (hS : s.heap.TupSet knd a S n) (hk : IsTupleKey knd s.heap k b) (hroom : n < 1000)
    (h : ∀ h', Heap.SameBut a s.heap h' → h'.TupSet knd a (fun k' => S k' || decide (k' = k)) (if S k then n else n + 1) → Q (!S k) { s with heap := h' }) :
    wpAny (model prog w) A (setAddHashed a (.ref b) (tupleKeyHash knd k)) Q E s := by
  obtain ⟨o, es, ep, t, ho, hex, hd, g, hel, hmem, hn, hfull, hmask⟩ := hS
  have hf : t.fits es.size = true := by have := g.fits; simpa using this
  have hps : t.place.size = es.size := by have := g.len; simpa using this
  unfold setAddHashed
  refine wpAny_holding ?_
  unfold setAddHashedIn
  refine wpAny_bind (wpAny_setState_of ho hd hf ?_)
  dsimp only
  rw [show byScan (.ref b) es = false from rfl]
  simp only [Bool.false_eq_true, if_false]
  obtain ⟨N, hN1, hN2, hN3⟩ := g.free (tupleKeyHash knd k)
  refine wpAny_bind ?_
  unfold setSearch
  refine wpAny_setSearch_tup hu ho hd g hel hk hN2 hN3 (by omega) (fun hx => ?_) (fun hx => ?_) 100000 0 none (by rcases hmask with z | z <;> omega) (Nat.zero_le _) rfl (fun ⟨e, he, hke⟩ => ?_)
  · -- it is there
    dsimp only
    have hSk : S k = true := (hmem k).mpr hx
    refine wpAny_pure ?_
    have := h s.heap (Heap.SameBut.refl a s.heap) ⟨o, es, ep, t, ho, hex, hd, g, hel, fun k' => by
      rw [Bool.or_eq_true, decide_eq_true_eq, ← hmem k']
      exact ⟨fun hk => hk.elim id (fun e => e ▸ hSk), .inl⟩, by rw [hSk]; exact hn, hfull, by rw [hSk]; exact hmask⟩
    rw [hSk] at this
    exact this
  · -- it is new
    dsimp only
    have hSk : S k = false := by
      cases hc : S k with
      | false => rfl
      | true => obtain ⟨e, he, hp⟩ := (hmem k).mp hc; exact absurd hp (hx e he)
    rw [hSk] at h
    refine wpAny_bind (wpAny_setState_of ho hd hf ?_)
    dsimp only
    have hplain : ∀ Y : Bool → Sem Bool, (∀ c, wpAny (model prog w) A (Y c) Q E s) → wpAny (model prog w) A (if (t.put (pos t.mask (tupleKeyHash knd k) N)).1.plain = true then (hashByValue 8 (.ref b) >>= Y) else (pure true >>= Y)) Q E s := fun Y hR => by
      split
      · exact wpAny_bind (wpAny_hashByValue_tuple hk hR)
      · exact wpAny_bind (wpAny_pure (hR true))
    refine hplain _ fun c => ?_
    generalize hT : (if c = true then (t.put (pos t.mask (tupleKeyHash knd k) N)).1 else { (t.put (pos t.mask (tupleKeyHash knd k) N)).1 with plain := false }) = T
    have hr : t.place.size < t.mask := by omega
    have hTg : ∃ pl, T = { (t.put (pos t.mask (tupleKeyHash knd k) N)).1 with plain := pl } := by
      cases c
      · exact ⟨false, by rw [← hT]; rfl⟩
      · exact ⟨(t.put (pos t.mask (tupleKeyHash knd k) N)).1.plain, by rw [← hT]; rfl⟩
    obtain ⟨pl, hTe⟩ := hTg
    have g1 := g.put hN2 hN3 hr pl
    rw [← hTe] at g1
    generalize hES : SetTable.insertAt es (t.put (pos t.mask (tupleKeyHash knd k) N)).2 (tupleKeyHash knd k, Value.ref b) = ES
    have hESl : ES.toList = insL es.toList (SetTable.below t.place (pos t.mask (tupleKeyHash knd k) N)) (tupleKeyHash knd k, Value.ref b) := by
      rw [← hES]; exact toList_insertAt _ _ _
    have hESm : ES.toList.map (·.1) = insL (es.toList.map (·.1)) (SetTable.below t.place (pos t.mask (tupleKeyHash knd k) N)) (tupleKeyHash knd k) := by
      rw [hESl]; unfold insL; simp [List.map_take, List.map_drop]
    rw [← hESm] at g1
    have hESp : ES.toList.Perm ((tupleKeyHash knd k, Value.ref b) :: es.toList) := by rw [hESl]; exact insL_perm _ _ _
    have hESz : ES.size = n + 1 := by
      have := hESp.length_eq
      simp at this; omega
    have hTm : T.mask = t.mask := by rw [hTe]; rfl
    have hTp : T.place.size = n + 1 := by have := g1.len; simp at this; omega
    have hTd : T.dummies.size = 0 := by rw [g1.dum]; rfl
    have hSL : ES.size ≤ sizeLine := by rw [hESz, sizeLine_eq]; omega
    obtain ⟨ho1, hsb1, hex1⟩ := TupSet_store ho hex hd ES T
    refine wpAny_bind (wpAny_storeSet_of ho hd ?_ hSL)
    have hnew : ElT knd s.heap k (tupleKeyHash knd k, Value.ref b) := ⟨b, rfl, hk, rfl⟩
    have elems : ∀ (L : List (Int × Value)) (h' : Heap), L.Perm ((tupleKeyHash knd k, Value.ref b) :: es.toList) → Heap.SameBut a s.heap h' → (∀ e ∈ L, ∃ k, ElT knd h' k e) ∧ ∀ k', (S k' || decide (k' = k)) = true ↔ ∃ e ∈ L, ElT knd h' k' e := fun L h' hp hs => by
      have old : ∀ e ∈ es.toList, ∃ k', ElT knd s.heap k' e ∧ ElT knd h' k' e := fun e he => by
        obtain ⟨k', z⟩ := hel e he
        exact ⟨k', z, z.but ho hd hs⟩
      refine ⟨fun e he => ?_, fun k' => ?_⟩
      · rcases List.mem_cons.mp (hp.mem_iff.mp he) with rfl | he
        · exact ⟨k, hnew.but ho hd hs⟩
        · obtain ⟨k', _, z⟩ := old e he; exact ⟨k', z⟩
      · rw [Bool.or_eq_true, decide_eq_true_eq, hmem k']
        constructor
        · rintro (⟨e, he, z⟩ | rfl)
          · exact ⟨e, hp.mem_iff.mpr (List.mem_cons_of_mem _ he), z.but ho hd hs⟩
          · exact ⟨_, hp.mem_iff.mpr List.mem_cons_self, hnew.but ho hd hs⟩
        · rintro ⟨e, he, z⟩
          rcases List.mem_cons.mp (hp.mem_iff.mp he) with rfl | he
          · exact .inr (z.inj (hnew.but ho hd hs))
          · obtain ⟨k'', z1, z2⟩ := old e he
            have := z.inj z2
            subst this
            exact .inl ⟨e, he, z1⟩
    by_cases hfl : T.tooFull = true
    · rw [hfl]
      simp only [Bool.not_false, Bool.and_self, if_true]
      have hgr : SetTable.grown (es.size + 1) = 4 * (n + 1) := by unfold SetTable.grown; rw [if_neg (by omega)]; omega
      rw [hgr]
      refine wpAny_bind (wpAny_setRelay ho1 rfl (by have := g1.fits; simpa using this) (by omega) (by omega) fun es' t' hp hg hw hle => ?_)
      obtain ⟨ho2, hsb2, hex2⟩ := TupSet_store ho1 hex1 rfl es' t'
      have hsb : Heap.SameBut a s.heap ((s.heap.update a (Obj.putSet ES T)).update a (Obj.putSet es' t')) := hsb1.trans hsb2
      obtain ⟨x1, x2⟩ := elems es'.toList _ (hp.trans hESp) hsb
      have hz' : es'.size = n + 1 := by have := hp.length_eq; simp at this; omega
      have hp' : t'.place.size = n + 1 := by have := hg.len; simp at this; omega
      refine wpAny_pure (h _ hsb ⟨_, es', _, t', ho2, hex2, rfl, hg, x1, x2, ?_, ?_, ?_⟩)
      · simp only [Bool.false_eq_true, if_false]; exact hz'
      · rw [hp']; omega
      · simp only [Bool.false_eq_true, if_false]; omega
    · rw [Bool.not_eq_true] at hfl
      rw [hfl]
      simp only [Bool.and_false, Bool.false_eq_true, if_false]
      obtain ⟨x1, x2⟩ := elems ES.toList _ hESp hsb1
      have hnf : T.place.size * 5 < T.mask * 3 := by
        unfold SetTable.tooFull SetTable.fill at hfl
        rw [hTd] at hfl
        simp at hfl
        omega
      refine wpAny_pure (h _ hsb1 ⟨_, ES, _, T, ho1, hex1, rfl, g1, x1, x2, ?_, hnf, ?_⟩)
      · simp only [Bool.false_eq_true, if_false]; exact hESz
      · simp only [Bool.false_eq_true, if_false]; rw [hTm]; omega
  · -- where it would be met
    obtain ⟨i, hi, ei⟩ := List.getElem_of_mem he
    have hi' : i < es.size := by simpa using hi
    have hpi : i < t.place.size := by omega
    have hz : (t.place[i], e.1) ∈ t.place.toList.zip (es.toList.map (·.1)) := by
      refine List.mem_iff_getElem.mpr ⟨i, ?_, ?_⟩
      · simp; omega
      · simp [← ei]
    obtain ⟨q, q1, q2⟩ := g.reach _ hz
    have eh : e.1 = tupleKeyHash knd k := let ⟨_, _, _, z⟩ := hke; z
    dsimp only at q1 q2
    rw [eh] at q1 q2
    have hmemq : pos t.mask (tupleKeyHash knd k) q ∈ t.place.toList := by rw [q1]; simp
    have hqN : q < N := by
      rcases Nat.lt_trichotomy q N with z | z | z
      · exact z
      · subst z; exact absurd hmemq hN2
      · exact absurd (q2 N z) hN2
    refine ⟨q, i, e, Nat.zero_le _, hqN, ?_, ?_, hke⟩
    · rw [q1]; exact slot_live g.ris (Array.getElem?_eq_getElem hpi)
    · rw [← ei]; simp [hi']
end
end PySem
namespace PySem
abbrev newSetO (led : Bool) : Obj := { cls := .type "set", dict := none, data := .set #[] 0 (.fresh 0 0 led) }
section
variable {prog : Program} {w : World} {A : Around} {E : Value → Shared → Prop} {s : Shared}
set_option maxRecDepth 100000 in
set_option maxHeartbeats 3200000 in
theorem call_set_any {x : Value} {Q : Value → Shared → Prop}
    (up : ∀ (led : Bool) (E' : Value → Shared → Prop), wpAny (model prog w) A.in1.in1 (Builtin.Frozenset.updateFrom "set.__init__" s.heap.objs.size x) (fun _ s2 => Q (.ref s.heap.objs.size) s2) E' { s with heap := s.heap.push (newSetO led) }) :
    wpAny (model prog w) A (call (.type "set") [x]) Q E s := by
  obtain ⟨c0, tl0, hm0⟩ := F.called_set.mro
  have made0 := F.called_set.made
  have sub0 := F.called_set.sub
  refine wpAny_call (codeAny_of_tree ?_)
  show wpAny _ _ (callAny (.type "set") _) _ _ _
  refine wpAny_pure ⟨Code.quiet_builtin _ (by decide +kernel), codeAny_builtin F.entry_type_call ?_⟩
  rw [Around.under_plain (weight_type_call_type "set" [x] []) rfl]
  have n0 := F.called_set.notType
  have n1 := F.called_set.canCreate
  have ct0 := F.typeCall_set_1 x
  repeat (any_goals (first | assumption | wp_step))
  refine codeAny_mono (code_set_new_1 x (E := E) (Q₁ := fun v s1 => ∃ led : Bool, v = .ref s.heap.objs.size ∧ s1 = { s with heap := s.heap.push (newSetO led) }) fun led => ⟨led, rfl, rfl⟩) fun r0 s0 hr0 => ?_
  cases r0 with
  | error e => exact hr0
  | ok f0 =>
    cases f0 with
    | ret v0 =>
      obtain ⟨led, rfl, rfl⟩ := hr0
      have hS0 : (s.heap.push (newSetO led)).get? s.heap.objs.size = some (newSetO led) := Heap.get?_push_size _ rfl
      have hT0 : Shared.TypeIs { s with heap := s.heap.push (newSetO led) } (.ref s.heap.objs.size) "set" := ⟨_, hS0, rfl⟩
      have li0 := F.called_set.init.lookup
      have bi0 := F.called_set.init.bind (.ref s.heap.objs.size)
      repeat (any_goals (first | assumption | wp_step))
      refine codeAny_mono (codeAny_call_builtin (R := wants (fun r s2 => r = .none ∧ Q (.ref s.heap.objs.size) s2) E) F.called_set.init.plain F.entry_set_init (check_set_init_1 hT0 ?_)) fun r1 s1 hr1 => ?_
      · unfold Builtin.«set.__init__» noKeywords
        have up0 := up led
        generalize Builtin.Frozenset.updateFrom = UF at up0 ⊢
        wp_walk
        refine wpAny_mono (up0 _) (fun _ s2 hq => ?_) fun _ _ e => e
        first | exact wpAny_pure ⟨rfl, hq⟩ | exact wpAny_pure (wpAny_pure ⟨rfl, hq⟩) | exact wpAny_bind (wpAny_pure (wpAny_pure ⟨rfl, hq⟩))
      · cases r1 with
        | error e => exact hr1
        | ok f1 =>
          cases f1 with
          | ret r =>
            obtain ⟨rfl, hq⟩ := hr1
            repeat (any_goals (first | assumption | wp_step))
          | _ => exact hr1.elim
    | _ => exact hr0.elim
end
end PySem
namespace PySem
section
variable {prog : Program} {w : World} {B : Around} {E : Value → Shared → Prop} {s : Shared}
theorem set_loop {R : Result → Shared → Prop} {I : Addr} {fp wr : List Addr} {n : Nat} {P : Nat → Value → Prop} {St : Nat → Heap → Prop} (W : Walks prog w B.in1 I fp wr n P St) (S : Addr) (hSf : S ∉ fp) (Sx : Nat → Heap → Prop)
    (keep : ∀ i j h h', St j h → Sx i h → (∀ b o, b ∉ wr → h.get? b = some o → h'.get? b = some o) → Sx i h')
    (add : ∀ i v (s' : Shared) (Q : Bool → Shared → Prop) (E' : Value → Shared → Prop), i < n → P i v → Sx i s'.heap → (∀ h' tk c, Heap.SameBut S s'.heap h' → Sx (i + 1) h' → Q c { s' with heap := h', toks := tk }) → wpAny (model prog w) B.in1 (setAdd S v) Q E' s') :
    ∀ (k i : Nat) (s : Shared), n - i = k → i ≤ n → St i s.heap → Sx i s.heap →
      (∀ h' tk, (∀ b o, b ∉ wr → b ≠ S → s.heap.get? b = some o → h'.get? b = some o) → Sx n h' → R (.ok (.ret .none)) { s with heap := h', toks := tk }) →
      codeAny (model prog w) B (.builtin "set.update.loop" ⟨[.ref S, .ref I], []⟩) R s := by
  intro k
  induction k with
  | zero =>
    intro i s hk hi st sx hR
    obtain rfl : i = n := by omega
    refine codeAny_builtin PyProof.Rows.F.entry_set_update_loop ?_
    rw [Around.under_plainId PyProof.Rows.F.plain_set_update_loop _]
    show wpAny _ B.in1 (pyNext (.ref I) >>= _) _ _ s
    refine wpAny_bind (W.done s _ _ st fun h' tk hm => ?_)
    show wpAny _ B.in1 (ret Value.none) _ _ _
    exact wpAny_pure (hR h' tk (fun b o hb _ e => hm b o hb e) (keep _ _ _ _ st sx hm))
  | succ k ih =>
    intro i s hk hi st sx hR
    have hlt : i < n := by omega
    refine codeAny_builtin PyProof.Rows.F.entry_set_update_loop ?_
    rw [Around.under_plainId PyProof.Rows.F.plain_set_update_loop _]
    show wpAny _ B.in1 (pyNext (.ref I) >>= _) _ _ s
    refine wpAny_bind (W.item i s _ _ hlt st fun v h1 t1 hP st1 hm => ?_)
    have sx1 : Sx i h1 := keep _ _ _ _ st sx hm
    show wpAny _ B.in1 (holding [v] (setAdd S v) >>= _) _ _ _
    refine wpAny_bind (wpAny_holding (add i v _ _ _ hlt hP sx1 fun h2 t2 c hsb sx2 => ?_))
    refine wpAny_pure ⟨plainId_quiet PyProof.Rows.F.plain_set_update_loop _, ih (i + 1) _ (by omega) hlt (W.frame _ _ _ st1 fun b hb o e => ?_) sx2 fun h3 t3 hk3 sx3 => ?_⟩
    · show h2.get? b = some o
      rw [hsb.2 b (fun z : b = S => hSf (by rw [← z]; exact hb))]; exact e
    · refine hR h3 t3 (fun b o hb hS e => hk3 b o hb hS ?_) sx3
      show h2.get? b = some o
      rw [hsb.2 b hS]; exact hm b o hb e
set_option maxRecDepth 100000 in
set_option maxHeartbeats 3200000 in
theorem updateFrom_list {id : String} {a l : Addr} {items : Array Value} {Q : Unit → Shared → Prop} (hh : B.handled = none) (hl : s.heap.IsList l items) (hal : a ≠ l) (has : a < s.heap.objs.size) (Sx : Nat → Heap → Prop) (start : Sx 0 s.heap)
    (keep : ∀ i (h h' : Heap), (∃ o, h.get? s.heap.objs.size = some o ∧ o.cls = .type "list_iterator") → Sx i h → (∀ b o, b ≠ s.heap.objs.size → h.get? b = some o → h'.get? b = some o) → Sx i h')
    (keep0 : ∀ (h' : Heap), (∀ b o, s.heap.get? b = some o → h'.get? b = some o) → Sx 0 h')
    (add : ∀ i v (s' : Shared) (Q : Bool → Shared → Prop) (E' : Value → Shared → Prop), items[i]? = some v → Sx i s'.heap → (∀ h' tk c, Heap.SameBut a s'.heap h' → Sx (i + 1) h' → Q c { s' with heap := h', toks := tk }) → wpAny (model prog w) B.in1 (setAdd a v) Q E' s')
    (fin : ∀ h' tk, Sx items.size h' → (∀ b o, b < s.heap.objs.size → b ≠ a → s.heap.get? b = some o → h'.get? b = some o) → Q () { s with heap := h', toks := tk }) :
    wpAny (model prog w) B (Builtin.Frozenset.updateFrom id a (.ref l)) Q E s := by
  obtain ⟨ol, hol, hcl, nl, hdl⟩ := hl
  obtain ⟨oc, od, odt, os⟩ := ol
  simp only at hcl hdl
  subst hcl; subst hdl
  have sl0 := F.sub_list_set
  have sl1 := F.sub_list_frozenset
  have ne0 : (Value.type "list" == Value.type "dict") = false := by decide
  have hl1 : s.heap.IsList l items := ⟨_, hol, rfl, nl, rfl⟩
  unfold Builtin.Frozenset.updateFrom
  generalize hPI : pyIter = PI
  wp_walk
  subst hPI
  refine wpAny_pyIter_list hl1 ?_
  refine wpAny_bind (wpAny_runValue ?_)
  have hlt : l < s.heap.objs.size := Heap.lt_size hol
  refine set_loop (Walks.list (by simp [hh]) _ l (Nat.ne_of_lt hlt) items) a ?_ Sx ?_ (fun i v s' Q E' _ hv sx hq => add i v s' Q E' hv sx hq) (items.size - 0) 0 _ rfl (Nat.zero_le _) ?_ ?_ ?_
  · simp only [List.mem_cons, List.not_mem_nil, or_false, not_or]
    exact ⟨Nat.ne_of_lt has, hal⟩
  · intro i j h h' st sx hk
    obtain ⟨⟨o, e, c, _⟩, _⟩ := st
    exact keep i h h' ⟨o, e, c⟩ sx fun b o hb e => hk b o (by simpa using hb) e
  · exact ⟨⟨_, Heap.get?_push_size _ rfl, rfl, rfl⟩, hl1.push _⟩
  · exact keep0 _ fun b o e => Heap.get?_push_of_some _ e
  · intro h' tk hk sx
    refine wpAny_pure ?_
    refine fin h' tk sx fun b o hb hba e => hk b o ?_ hba (Heap.get?_push_of_some _ e)
    simp only [List.mem_cons, List.not_mem_nil, or_false]
    exact Nat.ne_of_lt hb
end
end PySem
namespace L3
open PySem PySem.Spec PyProof.Rows L2
def ndist {κ : Type} [DecidableEq κ] : List κ → Nat
  | [] => 0
  | x :: xs => if x ∈ xs then ndist xs else ndist xs + 1
theorem ndist_le {κ : Type} [DecidableEq κ] : ∀ xs : List κ, ndist xs ≤ xs.length
  | [] => Nat.le_refl _
  | x :: xs => by
    have := ndist_le xs
    rw [ndist]
    split <;> simp only [List.length_cons] <;> omega
theorem ndist_nodup {κ : Type} [DecidableEq κ] : ∀ xs : List κ, ndist xs = xs.length ↔ xs.Nodup
  | [] => by simp [ndist]
  | x :: xs => by
    have := ndist_le xs
    rw [List.nodup_cons, ← ndist_nodup xs, ndist]
    split
    · rename_i h
      simp only [List.length_cons, h, not_true, false_and, iff_false]; omega
    · rename_i h
      simp only [List.length_cons, h, not_false_eq_true, true_and]; omega
def memD {κ : Type} [DecidableEq κ] (x : κ) (xs : List κ) : Bool := decide (x ∈ xs)
theorem memD_nil {κ : Type} [DecidableEq κ] (x : κ) : memD x [] = false := by simp [memD]
theorem memD_cons {κ : Type} [DecidableEq κ] (x y : κ) (xs : List κ) : memD x (y :: xs) = (memD x xs || decide (x = y)) := by
  unfold memD
  by_cases c : x = y <;> simp [c]
theorem ndist_cons {κ : Type} [DecidableEq κ] (x : κ) (xs : List κ) : ndist (x :: xs) = if memD x xs then ndist xs else ndist xs + 1 := by
  rw [ndist]; simp only [memD, decide_eq_true_eq]
theorem take_rev {κ : Type} {ks : List κ} {i : Nat} {k : κ} (h : ks[i]? = some k) : (ks.take (i + 1)).reverse = k :: (ks.take i).reverse := by
  obtain ⟨hi, e⟩ := List.getElem?_eq_some_iff.mp h
  rw [List.take_succ_eq_append_getElem hi, List.reverse_append, e]; rfl
def sizeIs (a : Addr) (n : Nat) : Heap → Prop := fun h => ∃ o es ep t, h.get? a = some o ∧ o.ExactSet ∧ o.data = .set es ep t ∧ t.fits es.size = true ∧ es.size = n
abbrev SetN (a : Addr) (n : Nat) : HO := .ext (sizeIs a n)
theorem sizeIs_ok {P : Program} {w : World} {H : Hp} {h : Heap} {a : Addr} {n : Nat} (x : sizeIs a n h) : ObjOk P w H h a (SetN a n) := by
  refine ⟨x, let ⟨o, _, _, _, e, _⟩ := x; ⟨o, e⟩, fun h1 h2 x1 k => ?_⟩
  obtain ⟨o, es, ep, t, e, r⟩ := x1
  exact ⟨o, es, ep, t, k o e, r⟩
section
variable {X : Cx}
def KeyV (K : PySem.W.Frag) (H : Hp) (k : List Key) (v : V) : Prop := ∃ b, v = .ref b ∧ SqT K H b (k.map kV)
theorem keyIs_rel {k : Key} {u : Value} (r : RelV (kV k) u) : keyIs k u = true := by
  cases k with
  | inl i => obtain ⟨t, rfl⟩ := r; exact keyIs_int i t
  | inr x => obtain ⟨t, rfl⟩ := r; exact keyIs_str x t
theorem itemsAre_of {P : Program} {w : World} : ∀ {k : List Key} {us : List Value}, Vals (k.map kV) us → ItemsAre (mixKind P w) k us
  | [], _, r => by cases r; exact .nil
  | x :: xs, _, r => by
    cases r with
    | cons r1 r2 => exact .cons (keyIs_rel r1) (itemsAre_of r2)
theorem tupKey_of {pins : List (Addr × Obj)} {σ : L2.St} {H : Hp} {s : Shared} (I : Inv X pins σ H s) {k : List Key} {b : Addr} (h : SqT X.K H b (k.map kV)) : IsTupleKey (mixKind X.prog X.w) s.heap k b := by
  obtain ⟨its, r, ⟨o, ho, hc, n, hd⟩, _⟩ := I.tuple h
  exact ⟨o, its.toArray, n, ho, hc, hd, by simpa using itemsAre_of r⟩
theorem keys_of {pins : List (Addr × Obj)} {σ : L2.St} {H : Hp} {s : Shared} (I : Inv X pins σ H s) : ∀ {ks : List (List Key)} {ys : List V} {us : List Value}, Paired (KeyV X.K H) ks ys → Vals ys us → ∀ (i : Nat) (v : Value), us[i]? = some v → ∃ k b, ks[i]? = some k ∧ v = Value.ref b ∧ IsTupleKey (mixKind X.prog X.w) s.heap k b
  | _, _, _, .nil, r, i, v, e => by cases r; simp at e
  | k :: ks, y :: ys, _, .cons p ps, r, i, v, e => by
    cases r with
    | cons r1 r2 =>
      cases i with
      | zero =>
        simp at e; subst e
        obtain ⟨b, rfl, q⟩ := p
        cases r1
        exact ⟨k, b, rfl, rfl, tupKey_of I q⟩
      | succ i =>
        obtain ⟨k', b, h1, h2, h3⟩ := keys_of I ps r2 i v (by simpa using e)
        exact ⟨k', b, by simpa using h1, h2, h3⟩
theorem tupSet_new {P : Program} {w : World} {h : Heap} (led : Bool) : (h.push (newSetO led)).TupSet (mixKind P w) h.objs.size (fun _ => false) 0 := by
  refine ⟨_, #[], 0, _, Heap.get?_push_size _ rfl, ⟨rfl, rfl, rfl⟩, rfl, ⟨⟨3, Nat.le_refl _, rfl⟩, rfl, List.Pairwise.nil, (by intro j hj; cases hj), rfl, Nat.zero_le _, (by intro x hx; cases hx)⟩, (by intro e he; cases he), ?_, rfl, (show 0 * 5 < 7 * 3 by decide), .inl (show 7 < 8 by decide)⟩
  intro k
  constructor
  · intro h; cases h
  · rintro ⟨e, he, _⟩; cases he
theorem TupSet.keeps {P : Program} {w : World} {h h' : Heap} {a : Addr} {S : List Key → Bool} {n : Nat} (x : h.TupSet (mixKind P w) a S n) {I : Addr} (hI : ∃ o, h.get? I = some o ∧ o.cls ≠ .type "tuple" ∧ o.cls ≠ .type "set") (k : ∀ b o, b ≠ I → h.get? b = some o → h'.get? b = some o) :
    h'.TupSet (mixKind P w) a S n := by
  obtain ⟨o, es, ep, t, ho, hex, hd, g, hel, hmem, hn, r⟩ := x
  obtain ⟨oI, hI, c1, c2⟩ := hI
  have ha : a ≠ I := by
    rintro rfl
    rw [ho] at hI; cases hI
    exact c2 hex.1
  have tk : ∀ k' b, IsTupleKey (mixKind P w) h k' b → IsTupleKey (mixKind P w) h' k' b := fun k' b ⟨ob, its, m, e1, e2, e3⟩ => by
    refine ⟨ob, its, m, k b ob ?_ e1, e2, e3⟩
    rintro rfl
    rw [e1] at hI; cases hI
    exact c1 e2
  have tkr : ∀ k' b, (∃ k'', IsTupleKey (mixKind P w) h k'' b) → IsTupleKey (mixKind P w) h' k' b → IsTupleKey (mixKind P w) h k' b := fun k' b ⟨k'', z⟩ y => by
    have := (tk k'' b z).inj y
    subst this; exact z
  refine ⟨o, es, ep, t, k a o ha ho, hex, hd, g, fun e he => ?_, fun k' => ?_, hn, r⟩
  · obtain ⟨k', b, e1, e2, e3⟩ := hel e he
    exact ⟨k', b, e1, tk _ _ e2, e3⟩
  · rw [hmem k']
    constructor
    · rintro ⟨e, he, b, e1, e2, e3⟩
      exact ⟨e, he, b, e1, tk _ _ e2, e3⟩
    · rintro ⟨e, he, b, e1, e2, e3⟩
      obtain ⟨k'', b'', f1, f2, f3⟩ := hel e he
      rw [e1] at f1; cases f1
      exact ⟨e, he, b, e1, tkr _ _ ⟨k'', f2⟩ e2, e3⟩
def rSetT (X : Cx) : List V → Hp → VK → Prop := fun xs H Q => ∃ p ys ks, xs = [.ref p] ∧ SqL X.K H p ys ∧ Paired (KeyV X.K H) ks ys ∧ ks.length ≤ 999 ∧ ∀ q, H q = none → Q (.ref q) (upd H q (SetN q (ndist ks.reverse)))
theorem call_setT {k0 : Nat} (hr : Room k0 X.A) (hc : X.calm = true) : CallR X (.type "set") (rSetT X) := by
  intro pins s σ H xs us Q I r h
  obtain ⟨p, ys, ks, rfl, hq, hks, hz, q⟩ := h
  obtain ⟨u, rfl, rx⟩ := vals1 r
  cases rx
  obtain ⟨its, rv, pl, _⟩ := I.list hq
  have hlen : ks.length = its.length := by rw [hks.length, rv.length]
  have hkeys := keys_of I hks rv
  have hlt : p < s.heap.objs.size := by obtain ⟨_, _, e, _⟩ := pl; exact Heap.lt_size e
  refine call_set_any fun led E' => ?_
  refine updateFrom_list (s := { s with heap := s.heap.push (newSetO led) }) (items := its.toArray) (by simp [I.ok.hd hc]) (pl.isList.push _) (Nat.ne_of_gt hlt) (by rw [Heap.size_push]; exact Nat.lt_succ_self _)
    (fun i h => h.TupSet (mixKind X.prog X.w) s.heap.objs.size (fun k : List Key => memD k (ks.take i).reverse) (ndist (ks.take i).reverse) ∧ ∀ (j : Nat) (v : Value) (k : List Key) (b : Addr), its[j]? = some v → v = Value.ref b → ks[j]? = some k → IsTupleKey (mixKind X.prog X.w) h k b) ?_ ?_ ?_ ?_ ?_
  · refine ⟨?_, fun j v k b e1 e2 e3 => ?_⟩
    · have := tupSet_new (P := X.prog) (w := X.w) (h := s.heap) led
      simpa [memD_nil, ndist] using this
    · subst e2
      obtain ⟨k', b', h1, h2, h3⟩ := hkeys j _ e1
      rw [e3] at h1; cases h1; cases h2
      obtain ⟨ob, it, m, e1, r⟩ := h3
      exact ⟨ob, it, m, Heap.get?_push_of_some _ e1, r⟩
  · rintro i h h' ⟨oI, hI, cI⟩ ⟨x1, x2⟩ k
    have nt : oI.cls ≠ .type "tuple" := by rw [cI]; decide
    refine ⟨TupSet.keeps x1 ⟨oI, hI, nt, by rw [cI]; decide⟩ k, fun j v k' b e1 e2 e3 => ?_⟩
    obtain ⟨ob, it, m, f1, f2, f3⟩ := x2 j v k' b e1 e2 e3
    refine ⟨ob, it, m, k b ob ?_ f1, f2, f3⟩
    rintro rfl
    rw [f1] at hI; cases hI
    exact nt f2
  · intro h' k
    have x := tupSet_new (P := X.prog) (w := X.w) (h := s.heap) led
    refine ⟨?_, fun j v k' b e1 e2 e3 => ?_⟩
    · obtain ⟨o, es, ep, t, ho, hex, hd, g, hel, hmem, hn, r⟩ := x
      have hes : es = #[] := Array.eq_empty_of_size_eq_zero hn
      subst hes
      refine ⟨o, #[], ep, t, k _ _ ho, hex, hd, g, (by intro e he; cases he), fun k' => ?_, rfl, r⟩
      simp [memD_nil]
    · subst e2
      obtain ⟨k'', b', h1, h2, h3⟩ := hkeys j _ e1
      rw [e3] at h1; cases h1; cases h2
      obtain ⟨ob, it, m, e1, r⟩ := h3
      exact ⟨ob, it, m, k _ _ (Heap.get?_push_of_some _ e1), r⟩
  · rintro i v s' Q' E'' hv ⟨x1, x2⟩ hq'
    have hv' : its[i]? = some v := by simpa using hv
    obtain ⟨k, b, h1, h2, _⟩ := hkeys i v hv'
    subst h2
    have hkb := x2 i _ k b hv' rfl h1
    have hi : i < ks.length := (List.getElem?_eq_some_iff.mp h1).1
    have hu : X.A.in1.in1.in1.units < cLine := by have := hr.un; show X.A.units + 1 + 1 + 1 < cLine; omega
    unfold setAdd
    refine wpAny_holding (wpAny_bind (wpAny_pyHash_tuple hu hkb ?_))
    have hroom : ndist (ks.take i).reverse < 1000 := by
      have := ndist_le (ks.take i).reverse
      rw [List.length_reverse, List.length_take] at this
      omega
    refine wpAny_setAdd_tup (s := { s' with toks := s'.toks + (k.length + 1) }) hu x1 hkb hroom fun h' hsb hS => ?_
    refine hq' h' _ _ hsb ⟨?_, fun j v k' b' e1 e2 e3 => ?_⟩
    · rw [take_rev h1]
      have e1 : (fun k' => memD k' (k :: (ks.take i).reverse)) = fun k' => memD k' (ks.take i).reverse || decide (k' = k) := funext fun k' => memD_cons _ _ _
      rw [e1, ndist_cons]
      exact hS
    · obtain ⟨o, es, ep, t, ho, _, hd, _⟩ := x1
      exact (x2 j v k' b' e1 e2 e3).but ho hd hsb
  · rintro h' tk ⟨x1, _⟩ hk
    have hsz : its.toArray.size = ks.length := by rw [List.size_toArray, hlen]
    rw [hsz, List.take_length] at x1
    have x3 : sizeIs s.heap.objs.size (ndist ks.reverse) h' := by
      obtain ⟨o, es, ep, t, ho, hex, hd, g, _, _, hn, _⟩ := x1
      exact ⟨o, es, ep, t, ho, hex, hd, by have := g.fits; simpa using this, hn⟩
    refine ⟨.ref s.heap.objs.size, _, I.laid (t' := tk) (fun b o e => ?_) (Nat.le_refl _) (sizeIs_ok x3), rfl, q _ (I.hok.fresh (Nat.le_refl _))⟩
    have hb := Heap.lt_size e
    refine hk b o ?_ (Nat.ne_of_lt hb) (Heap.get?_push_of_some _ e)
    rw [Heap.size_push]; exact Nat.lt_succ_of_lt hb
theorem call_len_set : CallR X (.builtin "len") (fun xs H Q => ∃ a n, xs = [.ref a] ∧ H a = some (SetN a n) ∧ n ≤ 100000 ∧ Q (.int n) H) := by
  intro pins s σ H xs us Q I r h
  obtain ⟨a, n, rfl, ha, hn, q⟩ := h
  obtain ⟨u, rfl, rx⟩ := vals1 r
  cases rx
  obtain ⟨⟨o, es, ep, t, ho, hex, hd, hf, e⟩, _⟩ := (show ObjOk X.prog X.w H s.heap a (SetN a n) from I.hok a _ ha)
  exact PySem.call_len_set ho hex hd hf (by omega) ⟨.int n, H, I.tok _, ⟨_, by rw [e]⟩, q⟩
end
end L3
namespace L3
open PySem PySem.Spec PyProof.Rows L2
section
variable {X : Cx}
theorem keysV : ∀ {ks : List Key} {us : List Value}, Vals (ks.map kV) us → ∀ (i : Nat) (v : Value), us[i]? = some v → ∃ k, ks[i]? = some k ∧ keyIs k v = true ∧ v.scannable = true
  | [], _, r, i, v, e => by cases r; simp at e
  | k :: ks, _, r, i, v, e => by
    cases r with
    | cons r1 r2 =>
      cases i with
      | zero =>
        simp at e; subst e
        refine ⟨k, rfl, keyIs_rel r1, ?_⟩
        cases k with
        | inl i => obtain ⟨t, rfl⟩ := r1; rfl
        | inr x => obtain ⟨t, rfl⟩ := r1; rfl
      | succ i =>
        obtain ⟨k', h1, h2⟩ := keysV r2 i v (by simpa using e)
        exact ⟨k', by simpa using h1, h2⟩
def rSetK (X : Cx) : List V → Hp → VK → Prop := fun xs H Q => ∃ (p : Addr) (ks : List Key), xs = [.ref p] ∧ SqL X.K H p (ks.map kV) ∧ ks.length ≤ 4000 ∧ ∀ q, H q = none → Q (.ref q) (upd H q (SetN q (ndist ks.reverse)))
theorem call_setK (hc : X.calm = true) : CallR X (.type "set") (rSetK X) := by
  intro pins s σ H xs us Q I r h
  obtain ⟨p, ks, rfl, hq, hz, q⟩ := h
  obtain ⟨u, rfl, rx⟩ := vals1 r
  cases rx
  obtain ⟨its, rv, pl, _⟩ := I.list hq
  have hlen : ks.length = its.length := by rw [← rv.length, List.length_map]
  have hkeys := keysV rv
  have hlt : p < s.heap.objs.size := by obtain ⟨_, _, e, _⟩ := pl; exact Heap.lt_size e
  refine call_set_any fun led E' => ?_
  have st0 : (s.heap.push (newSetO led)).SetOf (mixKind X.prog X.w) s.heap.objs.size (fun k => memD k (ks.take 0).reverse) (ndist (ks.take 0).reverse) := by
    refine ⟨_, #[], 0, _, Heap.get?_push_size _ rfl, ⟨rfl, rfl, rfl⟩, rfl, (by intro e he; cases he), fun k => ?_, (by decide), rfl, rfl⟩
    simp [memD_nil]
  refine updateFrom_list (s := { s with heap := s.heap.push (newSetO led) }) (items := its.toArray) (by simp [I.ok.hd hc]) (pl.isList.push _) (Nat.ne_of_gt hlt) (by rw [Heap.size_push]; exact Nat.lt_succ_self _)
    (fun i h => h.SetOf (mixKind X.prog X.w) s.heap.objs.size (fun k => memD k (ks.take i).reverse) (ndist (ks.take i).reverse)) st0 ?_ ?_ ?_ ?_
  · rintro i h h' ⟨oI, hI, cI⟩ ⟨o, es, ep, t, ho, hex, r⟩ k
    refine ⟨o, es, ep, t, k _ o ?_ ho, hex, r⟩
    intro z
    rw [z, hI] at ho; cases ho
    exact absurd (cI.symm.trans hex.1) (by decide)
  · intro h' k
    obtain ⟨o, es, ep, t, ho, r⟩ := st0
    exact ⟨o, es, ep, t, k _ _ ho, r⟩
  · rintro i v s' Q' E'' hv x1 hq'
    obtain ⟨k, h1, h2, h3⟩ := hkeys i v (by simpa using hv)
    have hi : i < ks.length := (List.getElem?_eq_some_iff.mp h1).1
    unfold setAdd
    refine wpAny_holding (wpAny_bind ((mixKind X.prog X.w).pyHash (k := k) h2 ?_))
    have hroom : ndist (ks.take i).reverse + 1 < scanBound := by
      have := ndist_le (ks.take i).reverse
      rw [List.length_reverse, List.length_take] at this
      unfold scanBound; omega
    refine wpAny_setAddHashed_of (knd := mixKind X.prog X.w) (s := { s' with toks := s'.toks + 1 }) h2 h3 x1 hroom fun h' hsb hS => ?_
    refine hq' h' _ _ hsb ?_
    show h'.SetOf (mixKind X.prog X.w) s.heap.objs.size (fun k => memD k (ks.take (i + 1)).reverse) (ndist (ks.take (i + 1)).reverse)
    rw [take_rev h1, ndist_cons, show (fun k' => memD k' (k :: (ks.take i).reverse)) = fun k' => memD k' (ks.take i).reverse || decide (k' = k) from funext fun k' => memD_cons _ _ _]
    exact hS
  · intro h' tk x1 hk
    have hsz : its.toArray.size = ks.length := by rw [List.size_toArray, hlen]
    rw [hsz, List.take_length] at x1
    have x3 : sizeIs s.heap.objs.size (ndist ks.reverse) h' := by
      obtain ⟨o, es, ep, t, ho, hex, hd, _, _, _, hf, hn⟩ := x1
      exact ⟨o, es, ep, t, ho, hex, hd, hf, hn⟩
    refine ⟨.ref s.heap.objs.size, _, I.laid (t' := tk) (fun b o e => ?_) (Nat.le_refl _) (sizeIs_ok x3), rfl, q _ (I.hok.fresh (Nat.le_refl _))⟩
    have hb := Heap.lt_size e
    refine hk b o ?_ (Nat.ne_of_lt hb) (Heap.get?_push_of_some _ e)
    rw [Heap.size_push]; exact Nat.lt_succ_of_lt hb
theorem call_set {k0 : Nat} (hr : Room k0 X.A) (hc : X.calm = true) : CallR X (.type "set") (fun xs H Q => rSetT X xs H Q ∨ rSetK X xs H Q) := CallR.or (call_setT hr hc) (call_setK hc)
end
theorem bt_set : bootBuiltins "set" = some (.type "set") := by decide +kernel
end L3
namespace L3
open PySem PySem.Spec PyProof.Rows L2
abbrev Mk := Int × Str
abbrev Stp := Int × Str × Str × Int
def Grow (H H' : Hp) : Prop := ∀ b o, H b = some o → (∀ xs, o ≠ .lst xs) → H' b = some o
theorem Same.grow {H H' : Hp} (g : Same H H') : Grow H H' := fun b o h _ => g b o h
theorem grow_new {H : Hp} {p : Addr} (h : H p = none) (o : HO) : Grow H (upd H p o) := Same.grow (same_new h o)
theorem Grow.seqT {K : PySem.W.Frag} {H H' : Hp} {a : Addr} {xs : List V} (e : Grow H H') (h : SqT K H a xs) : SqT K H' a xs := by
  rcases h with (h | ⟨o, h⟩) | h
  · exact .inl (.inl (e _ _ h (by intro _ q; cases q)))
  · exact .inl (.inr ⟨o, e _ _ h (by intro _ q; cases q)⟩)
  · exact .inr h
def MkV (K : PySem.W.Frag) (H : Hp) (m : Mk) (v : V) : Prop := ∃ b, v = .ref b ∧ SqT K H b [.int m.1, .str m.2]
def StV (K : PySem.W.Frag) (H : Hp) (t : Stp) (v : V) : Prop := ∃ b, v = .ref b ∧ SqT K H b [.int t.1, .str t.2.1, .str t.2.2.1, .int t.2.2.2]
theorem MkV.mono {K : PySem.W.Frag} {H H' : Hp} {m : Mk} {v : V} (g : Grow H H') : MkV K H m v → MkV K H' m v := fun ⟨b, e, h⟩ => ⟨b, e, g.seqT h⟩
theorem StV.mono {K : PySem.W.Frag} {H H' : Hp} {m : Stp} {v : V} (g : Grow H H') : StV K H m v → StV K H' m v := fun ⟨b, e, h⟩ => ⟨b, e, g.seqT h⟩
theorem paired_mono {α β : Type} {F G : α → β → Prop} (h : ∀ a b, F a b → G a b) : ∀ {xs : List α} {ys : List β}, Paired F xs ys → Paired G xs ys
  | _, _, .nil => .nil
  | _, _, .cons p q => .cons (h _ _ p) (paired_mono h q)
theorem paired_append {α β : Type} {F : α → β → Prop} : ∀ {xs xs' : List α} {ys ys' : List β}, Paired F xs ys → Paired F xs' ys' → Paired F (xs ++ xs') (ys ++ ys')
  | _, _, _, _, .nil, q => q
  | _, _, _, _, .cons p r, q => .cons p (paired_append r q)
theorem paired_get {α β : Type} {F : α → β → Prop} : ∀ {xs : List α} {ys : List β} {i : Nat} {y : β}, Paired F xs ys → ys[i]? = some y → ∃ x, xs[i]? = some x ∧ F x y
  | _, _, _, _, .nil, e => by simp at e
  | _, _, 0, _, .cons p _, e => by simp at e; subst e; exact ⟨_, rfl, p⟩
  | _, _, i + 1, y, .cons _ q, e => by
    obtain ⟨x, h1, h2⟩ := paired_get (i := i) (y := y) q (by simpa using e)
    exact ⟨x, by simpa using h1, h2⟩
structure Scr where
  signs : Str
  rooms : Int
  begins : List Mk
  steps : List Stp
  ends : List Mk
def ScV (K : PySem.W.Frag) (H : Hp) (s : Scr) (v : V) (pb ps pe : Addr) : Prop := ∃ a xb xs xe, v = .ref a ∧ SqT K H a [.str s.signs, .int s.rooms, .ref pb, .ref ps, .ref pe] ∧ SqL K H pb xb ∧ SqL K H ps xs ∧ SqL K H pe xe ∧
  Paired (MkV K H) s.begins xb ∧ Paired (StV K H) s.steps xs ∧ Paired (MkV K H) s.ends xe
theorem ScV.mono {K : PySem.W.Frag} {H H' : Hp} {s : Scr} {v : V} {pb ps pe : Addr} (g : Same H H') : ScV K H s v pb ps pe → ScV K H' s v pb ps pe
  | ⟨a, xb, xs, xe, e, h1, h2, h3, h4, h5, h6, h7⟩ => ⟨a, xb, xs, xe, e, Same.seqT g h1, g.seq h2, g.seq h3, g.seq h4, paired_mono (fun _ _ => MkV.mono (Same.grow g)) h5, paired_mono (fun _ _ => StV.mono (Same.grow g)) h6, paired_mono (fun _ _ => MkV.mono (Same.grow g)) h7⟩
def dMk (m : Mk) : D := .tup [.int m.1, .str m.2]
def dSt (t : Stp) : D := .tup [.int t.1, .str t.2.1, .str t.2.2.1, .int t.2.2.2]
def dScr (s : Scr) : D := .tup [.str s.signs, .int s.rooms, .lst (s.begins.map dMk), .lst (s.steps.map dSt), .lst (s.ends.map dMk)]
theorem rep_int {K : PySem.W.Frag} {H : Hp} (i : Int) : Rep K H (.int i) (.int i) := by unfold Rep; rfl
theorem rep_str {K : PySem.W.Frag} {H : Hp} (x : Str) : Rep K H (.str x) (.str x) := by unfold Rep; rfl
theorem rep_non {K : PySem.W.Frag} {H : Hp} : Rep K H .non .non := by unfold Rep; rfl
theorem rep_tup {K : PySem.W.Frag} {H : Hp} {a : Addr} {xs : List V} {ds : List D} (h : SqT K H a xs) (r : Reps K H ds xs) : Rep K H (.tup ds) (.ref a) := by unfold Rep; exact ⟨a, xs, rfl, h, r⟩
theorem rep_lst {K : PySem.W.Frag} {H : Hp} {a : Addr} {xs : List V} {ds : List D} (h : SqL K H a xs) (r : Reps K H ds xs) : Rep K H (.lst ds) (.ref a) := by unfold Rep; exact ⟨a, xs, rfl, h, r⟩
theorem MkV.rep {K : PySem.W.Frag} {H : Hp} {m : Mk} {v : V} : MkV K H m v → Rep K H (dMk m) v
  | ⟨_, e, h⟩ => by subst e; exact rep_tup h (.cons (rep_int _) (.cons (rep_str _) .nil))
theorem StV.rep {K : PySem.W.Frag} {H : Hp} {m : Stp} {v : V} : StV K H m v → Rep K H (dSt m) v
  | ⟨_, e, h⟩ => by subst e; exact rep_tup h (.cons (rep_int _) (.cons (rep_str _) (.cons (rep_str _) (.cons (rep_int _) .nil))))
theorem reps_of {K : PySem.W.Frag} {H : Hp} {α : Type} {F : α → V → Prop} {f : α → D} (h : ∀ a v, F a v → Rep K H (f a) v) : ∀ {xs : List α} {vs : List V}, Paired F xs vs → Reps K H (xs.map f) vs
  | _, _, .nil => .nil
  | _, _, .cons p q => .cons (h _ _ p) (reps_of h q)
theorem ScV.rep {K : PySem.W.Frag} {H : Hp} {s : Scr} {v : V} {pb ps pe : Addr} : ScV K H s v pb ps pe → Rep K H (dScr s) v
  | ⟨a, xb, xs, xe, e, h1, h2, h3, h4, h5, h6, h7⟩ => by
    subst e
    exact rep_tup h1 (.cons (rep_str _) (.cons (rep_int _) (.cons (rep_lst h2 (reps_of (f := dMk) (F := MkV K H) (fun _ _ h => MkV.rep h) h5)) (.cons (rep_lst h3 (reps_of (f := dSt) (F := StV K H) (fun _ _ h => StV.rep h) h6)) (.cons (rep_lst h4 (reps_of (f := dMk) (F := MkV K H) (fun _ _ h => MkV.rep h) h7)) .nil)))))
theorem deeps_map {α : Type} (f : α → D) (n : Nat) (h : ∀ a, deep (f a) ≤ n) : ∀ xs : List α, deeps (xs.map f) ≤ n
  | [] => by rw [List.map_nil, deeps]; exact Nat.zero_le _
  | x :: xs => by
    have h1 := h x
    have h2 := deeps_map f n h xs
    rw [List.map_cons, deeps]; omega
theorem deep_dMk (m : Mk) : deep (dMk m) ≤ 1 := by unfold dMk; simp [deep, deeps]
theorem deep_dSt (m : Stp) : deep (dSt m) ≤ 1 := by unfold dSt; simp [deep, deeps]
section
variable {X : Cx}
theorem pe_globI {x : Str} {i : Int} {pos : Pos} (hg : Gl X x) (hm : ∃ t, X.mg x = some (.int i t)) (hd : (x == ("__debug__" : Str)) = false := by decide) : PE X (.Name x pos) (tC (.int i)) := by
  obtain ⟨t, hm⟩ := hm
  exact pe_glob hg hm ⟨t, rfl⟩ hd
end
theorem kIx {X : Cx} {K : PySem.W.Frag} (r : PySem.W.Frag → R2) (h : IxR X (r X.K)) (e : X.K = K := by rfl) : IxR X (r K) := e ▸ h
theorem kOp {X : Cx} {K : PySem.W.Frag} {f : Value → Value → Sem Value} (r : PySem.W.Frag → R2) (h : OpR X f (r X.K)) (e : X.K = K := by rfl) : OpR X f (r K) := e ▸ h
def rLenS (K : PySem.W.Frag) : List V → Hp → VK → Prop := fun xs H Q => ∃ p ys, xs = [.ref p] ∧ (SqL K H p ys ∨ SqT K H p ys) ∧ Q (.int ys.length) H
theorem kLen {X : Cx} {K : PySem.W.Frag} (e : X.K = K := by rfl) : CallR X (.builtin "len") (rLenS K) := e ▸ call_len_seq
end L3
namespace L3
open PySem PySem.Spec PyProof.Rows L2
theorem ObjOk.there {P : Program} {w : World} {H : Hp} {h : Heap} : ∀ {a : Addr} {o : HO}, ObjOk P w H h a o → ∃ ob, h.get? a = some ob
  | _, .lst _, x => let ⟨_, _, _, _, e⟩ := x; ⟨_, e⟩
  | _, .tup _, x => let ⟨_, _, _, o, e, _⟩ := x; ⟨o, e⟩
  | _, .dK _, x => let ⟨_, _, _, _, o, _, _, e, _⟩ := x; ⟨o, e⟩
  | _, .dT _, x => let ⟨_, _, _, _, o, _, _, e, _⟩ := x; ⟨o, e⟩
  | _, .set _ _, x => let ⟨o, _, _, _, e, _⟩ := x; ⟨o, e⟩
  | _, .ins _ _ _, x => let ⟨_, _, _, e, _⟩ := x; ⟨_, e⟩
  | _, .own _, x => x
  | _, .xd _, x => let ⟨_, ⟨o, _, _, e, _⟩, _⟩ := x; ⟨o, e⟩
  | _, .met _ _, x => ⟨_, x⟩
  | _, .rng _ _, x => let ⟨_, _, _, e⟩ := x; ⟨_, e⟩
  | _, .frz o _, x => ⟨o, x.1⟩
  | _, .tbl _, x => ⟨_, x⟩
  | _, .ext _, x => x.2.1
structure Fly (P : Program) (w : World) (st : List Env) (H : Hp) (s : Shared) (x C : Addr) (H' : Hp) (s' : Shared) (B : Heap) : Prop where
  os : s'.os = s.os
  bare : AllBare s'.gens
  un : Un (frs st) [] H H' s.heap s'.heap
  hok : HOk P w H' s'.heap
  fl : ∃ t, Heap.FlyingW B st x (.ref C) (.ref t) s'.heap
  new : s.heap.get? x = none
  xf : H' x = none
  tr : ∀ b o, H' b ≠ none → s'.heap.get? b = some o → B.get? b = some o
  ol : ∀ b o, s.heap.get? b = some o → H b = none → b ∉ frs st → B.get? b = some o
  th : ∀ b o, s.heap.get? b = some o → b ∉ frs st → ∃ o', B.get? b = some o'
  ff : ∀ b ∈ frs st, H' b = none
def CX1 (P : Program) (w : World) : CXT := fun st H s E e s' => ∃ x C H' B, e = .ref x ∧ Fly P w st H s x C H' s' B ∧ E (.ref C) none H'
section
variable {P : Program} {w : World} {st : List Env} {H H' : Hp} {s s' : Shared} {x C : Addr} {B : Heap}
theorem Fly.turn (F : Fly P w st H s x C H' s' B) {h2 : Heap} (k : B.StaysIn h2) (u : s'.heap.UpToSlots h2) : Un (frs st) [] H H' s.heap h2 ∧ HOk P w H' h2 := by
  have slot : ∀ b ∈ frs st, ∀ o, s'.heap.get? b = some o → ∃ sl, h2.get? b = some { o with slots := sl } := fun b hb o q => by
    obtain ⟨t, fl⟩ := F.fl
    obtain ⟨_, o', e, d⟩ := fl.2.2.1.mem hb
    rw [q] at e; cases e
    exact u b o q d
  refine ⟨⟨fun b o q n hb _ => k b o (F.ol b o q n hb), fun b o q n hb hx => ?_, F.un.free, fun b o q hx => ?_, F.un.tups, F.un.frzs, F.un.tbls⟩, fun a o e => ?_⟩
  · obtain ⟨sl, e⟩ := F.un.slot b o q n hb hx
    obtain ⟨sl', e'⟩ := slot b hb _ e
    exact ⟨sl', e'⟩
  · by_cases hb : b ∈ frs st
    · obtain ⟨o', e⟩ := F.un.there b o q hx
      obtain ⟨sl, e'⟩ := slot b hb _ e
      exact ⟨_, e'⟩
    · obtain ⟨o', e⟩ := F.th b o q hb
      exact ⟨o', k b o' e⟩
  · refine (F.hok a o e).stay (fun b v hb q => ?_) (fun _ q => q) fun _ _ q => q
    refine k b v (F.tr b v ?_ q)
    rcases hb with rfl | hb
    · rw [e]; simp
    · rw [hb]; simp
end
section
variable {X : Cx} {pins : List (Addr × Obj)} {σ : L2.St} {H : Hp} {s : Shared}
theorem raise_fly {M : Model} {h2 : Heap} {x C : Addr} {vs : List Value} {Q : Unit → Shared → Prop} {E : Value → Shared → Prop} (I : Inv X pins σ H s) (hst : X.stack = X.env :: X.outer) (hfm : X.env.frame = some X.env.locals) (hex : X.ex = []) (hx : Heap.MadeExcOf s.heap h2 x (.ref C) vs)
    (q : ∀ h' B, Fly X.prog X.w X.outer X.H₀ X.s₀ x C H { s with heap := h' } B → Q () { s with heap := h' }) : wpAny M X.A (leaving X.env (.ref x)) Q E { s with heap := h2 } := by
  have hfr : X.A.frames = some (X.env :: X.outer) := by rw [← hst]; exact I.ok.frames
  have hstk := I.stack
  have inB : ∀ b o, s.heap.get? b = some o → b ∉ frs X.stack → (PySem.W.hideAll s.heap (frs X.stack)).get? b = some o := fun b o e n => PySem.W.hideAll_get _ e n
  have nst : ∀ b o, X.s₀.heap.get? b = some o → b ∉ X.fs → b ∉ frs X.stack := fun b o e n hb => by
    rcases List.mem_cons.mp (I.stkSub b hb) with z | z
    · exact absurd (Nat.lt_of_lt_of_le (Heap.lt_size e) I.ok.above) (by rw [z]; exact Nat.lt_irrefl _)
    · exact n z
  have noex : ∀ b : Addr, b ∉ X.ex := fun b => by rw [hex]; simp
  have fsub : ∀ b ∈ X.fs, b ∈ frs X.stack := fun b hb => by
    rw [hst]; unfold frs; rw [List.filterMap_cons, hfm]; exact List.mem_cons_of_mem _ hb
  have hff := PySem.W.funFrames_hide (as := frs X.stack) hstk (fun env he a ha => List.mem_filterMap.mpr ⟨env, he, ha⟩)
  rw [hst] at hff
  refine wpAny_leaves_madeW (base := PySem.W.hideAll s.heap (frs (X.env :: X.outer))) (h := s.heap) (s := { s with heap := h2 }) (L := X.env.locals) hfr hfm (fun b o e => PySem.W.of_hideAll _ e) hff hx fun h' t f1 f2 f3 f4 => ?_
  rw [← hst] at f1 f3
  have keepB : ∀ b o, s.heap.get? b = some o → b ∉ frs X.stack → h'.get? b = some o := fun b o e n => f1.1 b o (inB b o e n)
  have slot : ∀ b ∈ frs X.stack, ∀ o, s.heap.get? b = some o → ∃ sl, h'.get? b = some { o with slots := sl } := fun b hb o e => by
    obtain ⟨_, o', e', d⟩ := hstk.mem hb
    rw [e] at e'; cases e'
    exact f4 b o (hx.keeps b o e) d
  have xnew : X.s₀.heap.get? x = none := by
    cases e : X.s₀.heap.get? x with
    | none => rfl
    | some o =>
      obtain ⟨o', e'⟩ := I.base.there x o e (noex x)
      rw [hx.new] at e'; cases e'
  refine q h' _ ⟨I.os, I.bare, ⟨fun b o e n hb _ => ?_, fun b o e n hb _ => ?_, fun b o e n _ => I.base.free b o e n (noex b), fun b o e _ => ?_, I.base.tups, I.base.frzs, I.base.tbls⟩, fun a u e => ?_, ⟨t, f1⟩, xnew, ?_, fun b o hb e => ?_, fun b o e n hb => ?_, fun b o e hb => ?_, fun b hb => ?_⟩
  · exact keepB b o (I.base.keep b o e n hb (noex b)) (nst b o e hb)
  · obtain ⟨sl, e1⟩ := I.base.slot b o e n hb (noex b)
    obtain ⟨sl', e2⟩ := slot b (fsub b hb) _ e1
    exact ⟨sl', e2⟩
  · obtain ⟨o', e1⟩ := I.base.there b o e (noex b)
    by_cases hb : b ∈ frs X.stack
    · obtain ⟨sl, e2⟩ := slot b hb _ e1
      exact ⟨_, e2⟩
    · exact ⟨o', keepB b o' e1 hb⟩
  · refine (I.hok a u e).stay (fun b v hb q => keepB b v q fun z => ?_) (fun _ q => q) fun _ _ q => q
    have := I.stkFree b z
    rcases hb with rfl | hb
    · rw [e] at this; cases this
    · rw [hb] at this; cases this
  · cases e : H x with
    | none => rfl
    | some u =>
      obtain ⟨o, e'⟩ := ObjOk.there (I.hok x u e)
      rw [hx.new] at e'; cases e'
  · cases e' : H b with
    | none => exact absurd e' hb
    | some u =>
      obtain ⟨o1, e1⟩ := ObjOk.there (I.hok b u e')
      have nb : b ∉ frs X.stack := fun z => by have := I.stkFree b z; rw [e'] at this; cases this
      have e2 := keepB b o1 e1 nb
      have e3 : h'.get? b = some o := e
      rw [e3] at e2; cases e2
      exact inB b o e1 nb
  · exact inB b o (I.base.keep b o e n hb (noex b)) (nst b o e hb)
  · obtain ⟨o', e1⟩ := I.base.there b o e (noex b)
    exact ⟨o', inB b o' e1 (nst b o e hb)⟩
  · exact I.stkFree b (fsub b hb)
theorem pass_fly {M : Model} {s2 : Shared} {H2 : Hp} {x C : Addr} {B : Heap} {Q : Unit → Shared → Prop} {E : Value → Shared → Prop} (I : Inv X pins σ H s) (hst : X.stack = X.env :: X.outer) (hfm : X.env.frame = some X.env.locals) (hex : X.ex = []) (F : Fly X.prog X.w X.stack H s x C H2 s2 B)
    (q : ∀ h', Fly X.prog X.w X.outer X.H₀ X.s₀ x C H2 { s2 with heap := h' } B → Q () { s2 with heap := h' }) : wpAny M X.A (leaving X.env (.ref x)) Q E s2 := by
  have hfr : X.A.frames = some (X.env :: X.outer) := by rw [← hst]; exact I.ok.frames
  obtain ⟨t, fl⟩ := F.fl
  have nst : ∀ b o, X.s₀.heap.get? b = some o → b ∉ X.fs → b ∉ frs X.stack := fun b o e n hb => by
    rcases List.mem_cons.mp (I.stkSub b hb) with z | z
    · exact absurd (Nat.lt_of_lt_of_le (Heap.lt_size e) I.ok.above) (by rw [z]; exact Nat.lt_irrefl _)
    · exact n z
  have noex : ∀ b : Addr, b ∉ X.ex := fun b => by rw [hex]; simp
  have fsub : ∀ b ∈ X.fs, b ∈ frs X.stack := fun b hb => by
    rw [hst]; unfold frs; rw [List.filterMap_cons, hfm]; exact List.mem_cons_of_mem _ hb
  have fl' := fl
  rw [hst] at fl'
  refine wpAny_leaves_onW hfr hfm fl' fun h' f1 f2 => ?_
  obtain ⟨un, hok⟩ := F.turn f1.1 f2
  have xnew : X.s₀.heap.get? x = none := by
    cases e : X.s₀.heap.get? x with
    | none => rfl
    | some o =>
      obtain ⟨o', e'⟩ := I.base.there x o e (noex x)
      rw [F.new] at e'; cases e'
  refine q h' ⟨?_, F.bare, ⟨fun b o e n hb _ => ?_, fun b o e n hb _ => ?_, fun b o e n _ => ?_, fun b o e _ => ?_, fun b xs e => un.tups b xs (I.base.tups b xs e), fun b o u e => un.frzs b o u (I.base.frzs b o u e), fun b ps e => ?_⟩, hok, ⟨t, f1⟩, xnew, F.xf, fun b o hb e => ?_, fun b o e n hb => ?_, fun b o e hb => ?_, fun b hb => F.ff b (fsub b hb)⟩
  · exact F.os.trans I.os
  · exact un.keep b o (I.base.keep b o e n hb (noex b)) (I.base.free b o e n (noex b)) (nst b o e hb) (by simp)
  · obtain ⟨sl, e1⟩ := I.base.slot b o e n hb (noex b)
    obtain ⟨sl', e2⟩ := un.slot b _ e1 (I.base.free b o e n (noex b)) (fsub b hb) (by simp)
    exact ⟨sl', e2⟩
  · obtain ⟨o', e1⟩ := I.base.there b o e (noex b)
    exact un.free b o' e1 (I.base.free b o e n (noex b)) (by simp)
  · obtain ⟨o', e1⟩ := I.base.there b o e (noex b)
    exact un.there b o' e1 (by simp)
  · obtain ⟨m1, e1⟩ := I.base.tbls b ps e
    obtain ⟨m2, e2⟩ := un.tbls b _ e1
    exact ⟨m1 ++ m2, by rw [e2, Array.append_assoc]⟩
  · cases e' : H2 b with
    | none => exact absurd e' hb
    | some u =>
      obtain ⟨o1, e1⟩ := ObjOk.there (F.hok b u e')
      have e2 := F.tr b o1 hb e1
      have e3 := f1.1 b o1 e2
      have e4 : h'.get? b = some o := e
      rw [e4] at e3; cases e3
      exact e2
  · exact F.ol b o (I.base.keep b o e n hb (noex b)) (I.base.free b o e n (noex b)) (nst b o e hb)
  · obtain ⟨o', e1⟩ := I.base.there b o e (noex b)
    exact F.th b o' e1 (nst b o e hb)
end
end L3
namespace L3
open PySem PySem.Spec PyProof.Rows L2 PySem.W PySem.Builtin PySem.Builtin.ObjectAttr PySem.Builtin.Getset_descriptor PySem.Calls
structure XCls (K : Frag) (C : Addr) : Prop where
  ga : findIn K (.ref C) "__getattribute__" = some (some (.builtin "BaseException.__getattribute__"))
  gh : findIn K (.ref C) "__getattr__" = some none
  bs : mroIn K C (.type "BaseException") = some true
  cl : (clsIn K C).isSome = true
  ha : findIn K (.ref C) "__class__" = some (some (.builtin "object.__class__"))
  hn : specialIn K (.builtin "object.__class__") "__get__" = some (some (.builtin "getset_descriptor.__get__"))
  htk : takesIn K (.builtin "object.__class__") = some true
  hm : mroIn K C (.type "object") = some true
section
variable {prog : Program} {w : World} {A : Around} {E : Value → Shared → Prop} {s : Shared} {K : Frag} {x C : Addr}
end
end L3
namespace L3
open PySem PySem.Spec PyProof.Rows L2
abbrev bmV : List Value := [.type "ValueError", .type "Exception", .type "BaseException", .type "object"]
theorem own_obj {K : PySem.W.Frag} {h : Heap} {C : Addr} {bB : List Value} {nid : String} (X : K.In h) (e : PySem.W.excIn K C bB nid = true) :
    ∃ bm N nm q bs hd sn sub ab col dd k0 k1 k2 k3 k5 mN, h.get? C = some (excClassObj nm q C N bs bm hd sn sub ab col dd k0 k1 k2 k3 k5 nid) ∧ h.Ns N mN ∧ mN "__init__" = none ∧ OwnTail h bB bm := by
  unfold PySem.W.excIn at e
  split at e
  · rename_i dd cd slots hl
    split at e
    · rename_i C1 bm k0 k1 k2 k3 n1 k5 hmro hslots
      simp only [Bool.and_eq_true, beq_iff_eq, Bool.not_eq_true'] at e
      obtain ⟨⟨⟨⟨⟨e1, e2⟩, e3⟩, e4⟩, e5⟩, e6⟩ := e
      subst e1 e2
      obtain ⟨a1, a2, a3, a4, a5, a6, a7, a8, a9, a10, a11⟩ := cd
      dsimp only at hmro e3 e5 e6
      subst hmro e3
      have es : slots = #[k0, k1, k2, k3, some (.builtin n1), k5] := by
        obtain ⟨l⟩ := slots
        simp only at hslots
        rw [hslots]
      subst es
      exact ⟨bm, a4, a1, a5, a2, a6, a7, a8, a9, a10, dd, k0, k1, k2, k3, k5, _, X _ _ hl, .of_isNs (PySem.W.isNs_of_in X e5), PySem.W.nsMap_none_of_in X e5 e6, PySem.W.tail_of_in X e4⟩
    · cases e
  · cases e
structure OwnX (K : PySem.W.Frag) (mg : Str → Option Value) (x : Str) (C : Addr) : Prop where
  nm : mg x = some (.ref C)
  ex : PySem.W.excIn K C bmV "ValueError.__new__" = true
section
variable {X : Cx}
def Raises (X : Cx) (E : XK) : Prop := ∀ (pins : List (Addr × Obj)) (σ : L2.St) (H : Hp) (s : Shared) (h2 : Heap) (x C : Addr) (vs : List Value), Inv X pins σ H s → Heap.MadeExcOf s.heap h2 x (.ref C) vs → E (.ref C) none H → X.xe (.ref x) { s with heap := h2 }
def tRaise (C : Addr) (E : XK) (te : TE) : TS := fun _ σ H => te σ H fun v H1 => [v].length = 1 ∧ E (.ref C) none H1
theorem ps_raise {x : Str} {C : Addr} {E : XK} {e : Expr} {te : TE} {np cpos pos : Pos} (O : OwnX X.K X.mg x C) (hc : X.calm = true) (hg : Gl X x) (hR : Raises X E) (he : PE X e te) (hd : (x == ("__debug__" : Str)) = false := by decide)
    (hs : starEach [e] X.env = [(false, eval e X.env)] := by rfl) (hpl : (backTo cpos (starEach [e] X.env)).any (·.1) = false := by rfl) : PS X (.Raise (some (.Call (.Name x np) [e] [] cpos)) none pos) (tRaise C E te) := by
  intro pins s σ H D I h
  obtain ⟨bm, N, nm, q, bs, hdct, sn, sub, ab, col, dd, k0, k1, k2, k3, k5, mN, hC, hN, hni, T⟩ := own_obj (h := X.base) I.ok.mod.kin O.ex
  have FV := PySem.F.excBase_ValueError
  refine wpAny_Raise_call_subU (C := C) (nm := nm) (q := q) (N := N) (bs := bs) (bm := bm) (hdct := hdct) (sn := sn) (sub := sub) (ab := ab) (col := col) (dd := dd) (k0 := k0) (k1 := k1) (k2 := k2) (k3 := k3) (k5 := k5) (mN := mN)
    FV (by decide) FV (T.hasType FV.hasBase) (I.ok.hd hc) hpl hni (ld_glob I hg O.nm ⟨rfl, ?_⟩ hd)
  have pa : PA X [e] (tCons te tNil) := pa_cons he pa_nil hs
  rw [hs]
  refine Calls.evalArgs_plain ?_
  have run := pa cpos pins s σ H (fun ws H1 => ws.length = 1 ∧ E (.ref C) none H1) I h
  rw [hs] at run
  refine wpAny_mono run (fun vs s2 ⟨ws, H2, I2, rv, hw, hE⟩ => ?_) fun _ _ y => y
  have hl : vs.length ≤ sizeLine := by
    rw [← rv.length, hw]; decide
  exact ⟨rfl, hl, I2.bk _ _ hC, hN.keeps I2.bk, T.keeps I2.bk, fun h' x0 hm => hR pins σ H2 s2 h' x0 C vs I2 hm hE⟩
def Cal1 (P : Program) (w : World) (K : PySem.W.Frag) (mg : Str → Option Value) (base : Heap) (x : Str) (ps : List Str) (k : Nat) (sp : Sp) : Prop :=
  ∃ f fd, FnOk P w K mg base (CX1 P w) k f fd ps sp ∧ Binds K fd ps [] ∧ PySem.W.keepIn K (.ref f) = true ∧ mg x = some (.ref f)
def tFn1 (sp : Sp) (E : XK) (t : TA) : TE := fun σ H Q => t σ H fun vs H1 => sp vs H1 Q E
theorem pe_fn1 {x : Str} {ps : List Str} {k k' : Nat} {sp : Sp} {E : XK} {p pos : Pos} {e : Expr} {es : List Expr} {t : TA} (C : Cal1 X.prog X.w X.K X.mg X.base x ps k sp) (hr : Room k' X.A) (hk : k ≤ k') (hg : Gl X x) (hx : Passes (CX1 X.prog X.w) X E)
    (ha : PA X (e :: es) t) (hdb : (x == ("__debug__" : Str)) = false := by decide) (he : starEach (e :: es) X.env = (false, eval e X.env) :: starEach es X.env := by rfl) (hpl : (backTo pos (starEach es X.env)).any (·.1) = false := by rfl) :
    PE X (.Call (.Name x p) (e :: es) [] pos) (tFn1 sp E t) := by
  obtain ⟨f, fd, F, b, kp, hm⟩ := C
  intro pins s σ H Q I h
  refine wpAny_Call_Name_kw (ld_glob I hg hm ?_ hdb)
  refine PySem.W.callWith_K (h₀ := X.base) I.ok.mod.kin kp (thn (ha pos pins s σ H _ I h) fun us s1 ⟨vs, H1, I1, r, q⟩ => ⟨I1.kIn, ?_⟩) he hpl
  exact run_fn (dvs := []) F (hr.mono hk) b .nil hx I1 r (by rw [List.append_nil]; exact q)
theorem pass_no : Passes (CX1 X.prog X.w) X E0 := fun _ _ _ _ _ _ _ ⟨_, _, _, _, _, _, h⟩ => h.elim
end
section
variable {P : Program} {w : World} {K : PySem.W.Frag} {mg : Str → Option Value} {base : Heap} {N : List Str} {qual : Str} {scope : Scope} {f : Addr} {cd : Value} {A : Around} {outer : List Env} {s : Shared} {H : Hp} {E : XK}
theorem pass_on : Passes (CX1 P w) (cxOf (CX1 P w) P w K mg base N qual scope f cd A outer s H E) E := by
  intro pins σ H1 s1 e s2 I h
  obtain ⟨x, C, H2, B, rfl, F, hE⟩ := h
  show wpAny (model P w) _ (leaving _ (.ref x)) _ _ s2
  exact pass_fly I rfl rfl rfl F fun h' F' => ⟨x, C, H2, B, rfl, F', hE⟩
theorem raise_on : Raises (cxOf (CX1 P w) P w K mg base N qual scope f cd A outer s H E) E := by
  intro pins σ H1 s1 h2 x C vs I hm hE
  show wpAny (model P w) _ (leaving _ (.ref x)) _ _ _
  exact raise_fly I rfl rfl rfl hm fun h' B F' => ⟨x, C, H1, B, rfl, F', hE⟩
theorem Fun.ok1 {x : Str} {st : Stmt} {fd : FuncData} {ps : List Str} {k : Nat} {sp : Sp} (F : Fun K x qual st f fd) (S : FnScope N ps (defScope st)) (len : ∀ vs H Q E, sp vs H Q E → vs.length = ps.length)
    (hbody : ∀ (cdv : Value) (A : Around) (outer : List Env) (s : Shared) (H : Hp) (vs : List V) (Q : VK) (E : XK), Room k (A.deeper (envOfC qual (defScope st) s.heap.objs.size f cdv)) → sp vs H Q E →
      ∃ t, PSs (cxOf (CX1 P w) P w K mg base N qual (defScope st) f cdv A outer s H E) (defBody st) t ∧ t { nx := fun _ H' => Q .non H', rt := Q } (start N vs) H) : FnOk P w K mg base (CX1 P w) (k + 1) f fd ps sp := by
  obtain ⟨oc, od, kV, doc, pm, an, cdv, ct, osl, rfl, lk, hcd⟩ := F.ex
  exact fn_of lk hcd S len fun A outer s H vs Q E hr hsp => hbody cdv A outer s H vs Q E hr hsp
end
section
variable {X : Cx}
end
end L3
namespace L3
open PySem PySem.Spec PyProof.Rows L2
section
variable {X : Cx} {pins : List (Addr × Obj)} {σ : L2.St} {H : Hp} {s : Shared}
end
end L3
namespace L3
open PySem PySem.Spec PyProof.Rows L2
section
variable {prog : Program} {w : World} {κ : Type} [DecidableEq κ] {knd : HeapKind prog w κ} {A : Around} {E : Value → Shared → Prop} {s : Shared}
theorem sd_heap {d a : Addr} {xs : List (κ × Addr × Value)} {k : κ} {v : Value} {Q : Value → Shared → Prop} (hu : knd.room A) (hkey : knd.is s.heap k a) (hm : s.heap.DictOfH knd d xs) (hsz : xs.length ≤ sizeLine)
    (h1 : ∀ p, atKey xs k = some p → Q p.2 { s with toks := s.toks + knd.draws k })
    (h2 : atKey xs k = none → ∀ h', h'.DictOfH knd d (storedH xs k a v) → Heap.SameBut d s.heap h' → Q v { s with heap := h', toks := s.toks + knd.draws k }) :
    wpAny (model prog w) A (dictSetDefault d (.ref a) v) Q E s := by
  obtain ⟨o, es, ep, ho, hc, hd, he, his, hn⟩ := hm
  unfold dictSetDefault
  try with_reducible refine wpAny_holding ?_
  refine wpAny_bind (knd.pyHash hu hkey (wpAny_bind (wpAny_dictFind_heap (s := { s with toks := s.toks + knd.draws k }) hu hkey ho hd he his hn ?_ ?_)))
  · intro hno
    have hnot : k ∉ xs.map (·.1) := not_mem_keys_of_get hno
    have hsn := storedH_new (a := a) (v := v) (atKey_none_of_get hno)
    refine wpAny_bind (wpAny_rule (wpAny_bind (wpAny_updateDictKeys (hz := by have e := size_of_entries he; omega) (s := { s with toks := s.toks + knd.draws k }) ho hd (wpAny_pure
      (h2 (atKey_none_of_get hno) _ ⟨_, _, ep + 1, Heap.get?_update_self _ ho (Obj.isFreed_of_dict (Obj.data_mapDictKeys hd _)), hc.mapDictKeys _, Obj.data_mapDictKeys hd _, ?_, ?_, ?_⟩ (Heap.SameBut.update ..))))))
    · rw [hsn]; simp [he, entryOfKey]
    · rw [hsn]
      intro x hx
      rcases List.mem_append.mp hx with hx | hx
      · exact knd.keeps (his x hx) ho hd (Heap.SameBut.update ..)
      · cases List.mem_singleton.mp hx
        exact knd.keeps hkey ho hd (Heap.SameBut.update ..)
    · rw [hsn, List.map_append, List.nodup_append]
      refine ⟨hn, by simp, fun x hx y hy => ?_⟩
      cases List.mem_singleton.mp hy
      exact fun e => hnot ((show x = k from e) ▸ hx)
  · intro j p hj
    refine wpAny_bind (wpAny_dictEntries (s := { s with toks := s.toks + knd.draws k }) ho hd ?_)
    rw [entry_at he j, hj]
    exact wpAny_bind (wpAny_rule (wpAny_pure (h1 _ (atKey_of_get hn hj))))
theorem sd_meets {d a : Addr} (hd : (d == sysModules) = false) (dflt : Value) :
    MeetsIn prog w (Builtin.«dict.setdefault» ⟨[.ref d, .ref a, dflt], []⟩) (fun A R s => knd.room A.in1 ∧ ∃ k xs, knd.is s.heap k a ∧ s.heap.DictOfH knd d xs ∧ xs.length ≤ sizeLine ∧
      (∀ p, atKey xs k = some p → R (.ok (.ret p.2)) { s with toks := s.toks + knd.draws k }) ∧
      (atKey xs k = none → ∀ h', h'.DictOfH knd d (storedH xs k a dflt) → Heap.SameBut d s.heap h' → R (.ok (.ret dflt)) { s with heap := h', toks := s.toks + knd.draws k })) :=
  .of_wp fun A R s ⟨hu, k, xs, hkey, hm, hz, h1, h2⟩ => by
    unfold Builtin.«dict.setdefault»
    refine wpAny_bind ?_
    unfold Builtin.Dict.keyAndDefault
    refine wpAny_bind (wpAny_notOrdered_dict hm.typeIs ?_)
    show wpAny _ _ (pure (d, Value.ref a, some dflt)) _ _ s
    refine wpAny_pure ?_
    show wpAny _ _ (if (d == sysModules) = true then _ else (dictSetDefault d (.ref a) dflt >>= _)) _ _ s
    rw [if_neg (by rw [hd]; exact Bool.false_ne_true)]
    exact wpAny_bind (sd_heap hu hkey hm hz (fun p hp => wpAny_pure ⟨_, rfl, h1 p hp⟩) fun hn h' hm' hs' => wpAny_pure ⟨_, rfl, h2 hn h' hm' hs'⟩)
end
section
variable {X : Cx}
def rSetD : V → List V → Hp → VK → Prop := fun x vs H Q => ∃ a y z, x = .ref a ∧ vs = [y, z] ∧
  ((∃ kvs k, H a = some (.dK kvs) ∧ y = kV k ∧ kvs.length < sizeLine ∧ (∀ r, valV kvs k = some r → Q r H) ∧ (valV kvs k = none → Q z (upd H a (.dK (putK kvs k z))))) ∨
   ∃ kvs k b, H a = some (.dT kvs) ∧ y = .ref b ∧ H b = some (.tup (k.map kV)) ∧ kvs.length < sizeLine ∧ (∀ r, valV kvs k = some r → Q r H) ∧ (valV kvs k = none → Q z (upd H a (.dT (putK kvs k z)))))
theorem args_sd (a b c : Value) : argsOk "dict.setdefault" ⟨[a, b, c], []⟩ := by unfold argsOk; kernel_rfl
theorem mt_setdefault {k0 : Nat} (hr : Room k0 X.A) : MtR X "dict.setdefault" rSetD := by
  intro pins s σ H x vs v us Q I rx rv h
  obtain ⟨a, y, z, rfl, rfl, h⟩ := h
  cases rx
  obtain ⟨u, r, rfl, ru, rr⟩ := vals2 rv
  rcases h with ⟨kvs, k, e, rfl, hl, h1, h2⟩ | ⟨kvs, k, b, e, rfl, eb, hl, h1, h2⟩
  · obtain ⟨hz, hd, ws, rel, dd⟩ := dk_of I.hok e
    refine call_meetsIn PySem.F.slot_dict_setdefault dd.typeIs PySem.F.entry_dict_setdefault (args_sd _ _ _) (kt_meets_setdefault (mixKind X.prog X.w) a (kV_is ru) hd r)
      ⟨ws, dd, by rw [← rel.length]; exact hz, fun v' hv' => ?_, fun hn h' dd' hs => ?_⟩
    · have q := rel.val k
      rw [hv'] at q
      cases hk : valV kvs k with
      | none => rw [hk] at q; exact q.elim
      | some r' => rw [hk] at q; exact ⟨r', H, I.tok _, q, h1 r' hk⟩
    · have q := rel.val k
      rw [hn] at q
      cases hk : valV kvs k with
      | some r' => rw [hk] at q; exact q.elim
      | none =>
        refine ⟨z, _, d_write I (by rw [e]; exact True.intro) hs (let ⟨q, _, _, hq, _⟩ := dd'; ⟨q, hq⟩) (dk_new ?_ hd (rel.put k rr) dd'), rr, h2 hk⟩
        have := length_putK kvs k z
        omega
  · cases (show u = Value.ref b from ru)
    obtain ⟨hz, hd, xs, rel, dd⟩ := dt_of I.hok e
    refine call_meetsIn PySem.F.slot_dict_setdefault dd.typeIs PySem.F.entry_dict_setdefault (args_sd _ _ _) (sd_meets (knd := tupleKind (mixKind X.prog X.w)) (d := a) (a := b) hd r)
      ⟨tupleKind_room_in1 (hu_of hr), k, xs, key_of I.hok eb, dd, by rw [← Paired.length rel]; exact hz, fun p hp => ?_, fun hn h' dd' hs => ?_⟩
    · have q := rel.val k
      rw [hp] at q
      cases hk : valV kvs k with
      | none => rw [hk] at q; exact q.elim
      | some r' => rw [hk] at q; exact ⟨r', H, I.tok _, q, h1 r' hk⟩
    · have q := rel.val k
      rw [hn] at q
      cases hk : valV kvs k with
      | some r' => rw [hk] at q; exact q.elim
      | none =>
        obtain ⟨q, es, ep, hq, g2, g3, g4, _, g5⟩ := dd'
        refine ⟨z, upd H a (.dT (putK kvs k z)), d_write (ob := .dT (putK kvs k z)) I (by rw [e]; exact True.intro) hs ⟨q, hq⟩ ⟨?_, hd, _, (rel.put k eb rr).keeps fun c ys ec => ?_, q, es, ep, hq, g2, g3, g4, g5⟩, rr, h2 hk⟩
        · have := length_putK kvs k z
          omega
        · rw [upd_ne (ne_of ec e (fun z => nomatch z))]
          exact ec
def rGet2 : V → List V → Hp → VK → Prop := fun x vs H Q => ∃ a y z o, x = .ref a ∧ vs = [y, z] ∧ DGet H a y o ∧ Q (o.getD z) H
theorem mt_get2 {k0 : Nat} (hr : Room k0 X.A) : MtR X "dict.get" rGet2 := by
  intro pins s σ H x vs v us Q I rx rv h
  obtain ⟨a, y, z, o, rfl, rfl, g, q⟩ := h
  cases rx
  obtain ⟨u, r, rfl, ru, rr⟩ := vals2 rv
  exact d_get2 (hu_of hr) I g ru rr fun w' s' I' rw' => ⟨_, H, I', rw', q⟩
end
end L3
namespace L3
open PySem PySem.Spec PyProof.Rows L2
def Its (x : Str) : It := ⟨fun i _ => i < x.cps.size, fun i H v H' => H' = H ∧ ∃ c, x.cps[i]? = some c ∧ v = .str ⟨#[c]⟩, fun i _ => x.cps.size ≤ i⟩
theorem str_walks {prog : Program} {w : World} {A : Around} (hh : A.handled = none) (it : Addr) (x : Str) (t : Tok) {ty : String} (hty : ty = "str_ascii_iterator" ∨ ty = "str_iterator") :
    Walks prog w A it [it] [it] x.cps.size (SignAt x) (fun i h => h.IsStrIter it ty x t i) := by
  rcases hty with rfl | rfl
  · exact Walks.strAscii hh it x t
  · exact Walks.strWide hh it x t
theorem turn_str {P : Program} {w : World} {K : PySem.W.Frag} {tg : Expr} (it : Addr) (x : Str) (t : Tok) {ty : String} (hty : ty = "str_ascii_iterator" ∨ ty = "str_iterator") : Turn P w K tg (Its x) [it] it (fun i h => h.IsStrIter it ty x t i) where
  mem := by simp
  obj := fun i h st b hb => by
    have e : b = it := by simpa using hb
    subst e
    obtain ⟨o, e, c, d⟩ := st
    exact ⟨o, e, fun v z => by rw [d] at z; cases z⟩
  keep := fun i h h' st k => let ⟨o, ho, r⟩ := st; ⟨o, k it (by simp) o ho, r⟩
  item := by
    intro X hP hw hK hc i pins s σ H E I hf st hg
    subst hP hw hK
    obtain ⟨f0, f1, f2, f3, f4, f5⟩ := hf it (by simp)
    refine (str_walks (prog := X.prog) (w := X.w) (I.ok.hd hc) it x t hty).item i s _ _ hg st fun v h' tk hv st' kk => ?_
    obtain ⟨c, u, hcx, rfl⟩ := hv
    have I1 : Inv X pins σ H { s with heap := h', toks := tk } := I.turned (fun b o hb e => kk b o (by simpa using hb) e) f0 f1 f3 f4 f5
    obtain ⟨o, e, cc, d⟩ := id st'
    exact ⟨_, rfl, go_of (s := { s with heap := h', toks := tk }) e cc d (by rcases hty with rfl | rfl <;> decide) ⟨.str ⟨#[c]⟩, H, I1, ⟨u, rfl⟩, ⟨rfl, c, hcx, rfl⟩, st', fun b hb => (hf b hb).1⟩⟩
  done := by
    intro X hP hw hK hc i pins s σ H E I hf st hg
    subst hP hw hK
    obtain ⟨f0, f1, f2, f3, f4, f5⟩ := hf it (by simp)
    have hx : x.cps[i]? = none := Array.getElem?_eq_none hg
    rcases hty with rfl | rfl
    · exact wpAny_pyNext_ascii_end (I.ok.hd hc) st hx fun h' eb => ⟨rfl, I.turned (t' := s.toks) (fun b o hb e => eb b o hb e) f0 f1 f3 f4 f5⟩
    · exact wpAny_pyNext_wide_end (I.ok.hd hc) st hx fun h' eb => ⟨rfl, I.turned (t' := s.toks) (fun b o hb e => eb b o hb e) f0 f1 f3 f4 f5⟩
  self := fun _ _ _ _ _ st h => by
    rcases hty with rfl | rfl
    · exact wpAny_pyIter_striter_ascii st h
    · exact wpAny_pyIter_striter_wide st h
section
variable {X : Cx} {tg : Expr}
def iStr (tl : TE) : TI := fun σ H R => tl σ H fun x H1 => ∃ z, x = .str z ∧ R (Its z) H1
theorem pi_str {l : Expr} {tl : TE} (hl : PE X l tl) : PI X tg l (iStr tl) := by
  intro pins s σ H R I h
  refine thn (hl pins s σ H _ I h) fun v s1 ⟨x, H1, I1, r1, q1⟩ => ?_
  obtain ⟨z, e, q⟩ := q1
  subst e
  obtain ⟨t, rfl⟩ := r1
  have fp : ∀ b ∈ [s1.heap.objs.size], FpOk X pins H1 b := fun b hb => by
    have e : b = s1.heap.objs.size := by simpa using hb
    subst e
    exact I1.fpOk (Nat.le_refl _) (I1.hok.fresh (Nat.le_refl _))
  cases ha : z.cps.all (· < 128)
  · exact wpAny_pyIter_wide ha ⟨s1.heap.objs.size, [s1.heap.objs.size], _, _, H1, rfl, I1.kept (t' := s1.toks) fun b o e => Heap.get?_push_of_some _ e, turn_str _ z t (.inr rfl), ⟨_, Heap.get?_push_size _ rfl, rfl, rfl⟩, fp, q⟩
  · exact wpAny_pyIter_ascii ha ⟨s1.heap.objs.size, [s1.heap.objs.size], _, _, H1, rfl, I1.kept (t' := s1.toks) fun b o e => Heap.get?_push_of_some _ e, turn_str _ z t (.inl rfl), ⟨_, Heap.get?_push_size _ rfl, rfl, rfl⟩, fp, q⟩
end
end L3
namespace L3
open PySem PySem.Spec PyProof.Rows L2 PySem.W
def RawD (d : Addr) (es : Array DictEntry) (p : Nat) (h : Heap) : Prop := ∃ b, h.get? d = some b ∧ b.ExactDict ∧ b.data = .dict es p
section
variable {prog : Program} {w : World} {A : Around} {E : Value → Shared → Prop} {s : Shared} {d it : Addr} {es : Array DictEntry} {p i : Nat}
theorem RawD.ty (r : RawD d es p s.heap) : s.TypeIs (.ref d) "dict" := let ⟨b, e, x, _⟩ := r; ⟨b, e, x.1⟩
theorem RawD.at {h h' : Heap} (r : RawD d es p h) (k : ∀ o, h.get? d = some o → h'.get? d = some o) : RawD d es p h' := let ⟨b, e, x⟩ := r; ⟨b, k _ e, x⟩
theorem RawD.lt {h : Heap} (r : RawD d es p h) : d < h.objs.size := let ⟨_, e, _⟩ := r; Heap.lt_size e
theorem rd_iter {Q : Value → Shared → Prop} (lo : (d == sysModules) = false) (r : RawD d es p s.heap)
    (q : Q (.ref s.heap.objs.size) { s with heap := s.heap.push { cls := .type "dict_keyiterator", data := .fields #[.ref d, .int 0 0, .int es.size 0, .int p 0] } }) : wpAny (model prog w) A (pyIter (.ref d)) Q E s := by
  obtain ⟨b, eb, xb, db⟩ := id r
  refine wpAny_pyIter_slot r.ty PySem.F.slot_dict_iter (wpAny_call_entry PySem.F.slot_dict_iter r.ty PySem.F.entry_dict_iter ?_ (PySem.F.args_dict_iter_1 _))
  unfold Builtin.«dict.__iter__»
  refine wpAny_bind ?_
  unfold Builtin.Dict.dictSlotNone
  refine wpAny_bind (wpAny_notOrdered_dict r.ty ?_)
  show wpAny _ _ (pure (.ref d : Value)) _ _ s
  refine wpAny_pure ?_
  show wpAny _ _ (Builtin.Dict.showsAll d >>= fun _ => _) _ _ s
  unfold Builtin.Dict.showsAll
  rw [lo]
  refine wpAny_bind (wpAny_pure (wpAny_bind (wpAny_dictEntries eb db (wpAny_bind (wpAny_dictEpoch eb db ?_)))))
  exact wpAny_bind (wpAny_newObj_type (wpAny_pure ⟨_, rfl, _, _, ⟨_, Heap.get?_push_size _ rfl, rfl⟩, PySem.F.slot_dict_keyiterator_next.lookup, q⟩))
theorem rd_item {Q : Option Value → Shared → Prop} {e : DictEntry} (st : s.heap.IsKeyIter it d i es.size p) (r : RawD d es p s.heap) (hx : es[i]? = some e)
    (q : ∀ h', h'.IsKeyIter it d (i + 1) es.size p → Heap.SameBut it s.heap h' → Q (some e.key) { s with heap := h' }) : wpAny (model prog w) A (pyNext (.ref it)) Q E s := by
  obtain ⟨b, eb, cb, db⟩ := id st
  obtain ⟨c, ec, xc, dc⟩ := id r
  unfold pyNext
  refine wpAny_bind (wpAny_attempt (wpAny_callSpecial?_slot (name := Str.ofString "__next__") st.typeIs PySem.F.slot_dict_keyiterator_next (wpAny_call_entry PySem.F.slot_dict_keyiterator_next st.typeIs PySem.F.entry_dict_keyiterator_next ?_ (PySem.F.args_dict_keyiterator_next_1 _))))
  refine wpAny_bind (wpAny_pure (wpAny_bind (wpAny_bind ?_)))
  refine wpAny_bind (wpAny_typeNameOfWhole_keyiter st.typeIs (wpAny_pure (wpAny_bind (wpAny_fieldsOf eb db ?_))))
  have own : Builtin.Dict_items.ownsTuple "dict_keyiterator" = false := by decide
  simp only [own, Bool.false_eq_true, if_false]
  show wpAny _ _ (if (Value.ref d == Value.none) = true then _ else _) _ _ _
  rw [if_neg (by intro z; cases z)]
  refine wpAny_bind (wpAny_pure (wpAny_bind (wpAny_dictEntries ec dc ?_)))
  rw [if_neg (by simp)]
  refine wpAny_bind (wpAny_pure (wpAny_bind (wpAny_dictEpoch ec dc ?_)))
  rw [if_neg (by simp)]
  refine wpAny_pure ?_
  simp only [show ¬ ((i : Int) < 0) by omega, if_false, Int.toNat_natCast, hx]
  refine wpAny_bind (wpAny_bind (wpAny_typeNameOfWhole_keyiter st.typeIs (wpAny_pure ?_)))
  refine wpAny_bind (wpAny_isOneOf_keyiter st.typeIs ?_)
  show wpAny _ _ (setField (.ref it) 1 (rawInt (i + 1)) >>= _) _ _ _
  refine wpAny_bind (wpAny_setField eb db (by simp) ?_)
  have st' : (s.heap.update it (Obj.mapFields (·.setIfInBounds 1 (rawInt ((i : Int) + 1))))).IsKeyIter it d (i + 1) es.size p :=
    ⟨_, Heap.get?_update_self _ eb (Obj.isFreed_of_fields (Obj.data_mapFields db _)), (Obj.cls_mapFields ..).trans cb, by rw [Obj.data_mapFields db]; simp [rawInt]⟩
  refine wpAny_bind (wpAny_holding (wpAny_bind (wpAny_isOneOf_keyiter (s := { s with heap := _ }) st'.typeIs ?_)))
  show wpAny _ _ (pure e.key) _ _ _
  exact wpAny_pure (wpAny_pure ⟨_, rfl, wpAny_pure (q _ st' (Heap.SameBut.update ..))⟩)
theorem rd_end {Q : Option Value → Shared → Prop} (hh : A.handled = none) (st : s.heap.IsKeyIter it d i es.size p) (r : RawD d es p s.heap) (hx : es[i]? = none)
    (q : ∀ h', Heap.ExtBut it s.heap h' → Q none { s with heap := h' }) : wpAny (model prog w) A (pyNext (.ref it)) Q E s := by
  obtain ⟨b, eb, cb, db⟩ := id st
  obtain ⟨c, ec, xc, dc⟩ := id r
  unfold pyNext
  refine wpAny_bind (wpAny_attempt (wpAny_callSpecial?_slot (name := Str.ofString "__next__") st.typeIs PySem.F.slot_dict_keyiterator_next (wpAny_call_entry PySem.F.slot_dict_keyiterator_next st.typeIs PySem.F.entry_dict_keyiterator_next ?_ (PySem.F.args_dict_keyiterator_next_1 _))))
  refine wpAny_bind (wpAny_pure (wpAny_bind (wpAny_bind ?_)))
  refine wpAny_bind (wpAny_typeNameOfWhole_keyiter st.typeIs (wpAny_pure (wpAny_bind (wpAny_fieldsOf eb db ?_))))
  have own : Builtin.Dict_items.ownsTuple "dict_keyiterator" = false := by decide
  simp only [own, Bool.false_eq_true, if_false]
  show wpAny _ _ (if (Value.ref d == Value.none) = true then _ else _) _ _ _
  rw [if_neg (by intro z; cases z)]
  refine wpAny_bind (wpAny_pure (wpAny_bind (wpAny_dictEntries ec dc ?_)))
  rw [if_neg (by simp)]
  refine wpAny_bind (wpAny_pure (wpAny_bind (wpAny_dictEpoch ec dc ?_)))
  rw [if_neg (by simp)]
  refine wpAny_pure ?_
  simp only [show ¬ ((i : Int) < 0) by omega, if_false, Int.toNat_natCast, hx]
  refine wpAny_bind (wpAny_bind (wpAny_typeNameOfWhole_keyiter st.typeIs (wpAny_pure ?_)))
  show wpAny _ _ (setField (.ref it) 0 Value.none >>= _) _ _ _
  refine wpAny_bind (wpAny_setField eb db (by simp) ?_)
  show wpAny _ _ (newExc (.type "StopIteration") ([] : List Value) >>= _) _ _ _
  refine wpAny_bind ?_
  simp only [newExc, newTuple]
  refine wpAny_bind (wpAny_newObj_type (wpAny_bind (m := firstArgMember _ _) (wpAny_of_eq (a := .none) (by first | rfl | (simp only [firstArgMember]; rfl)) (wpAny_newObj_type ?_ (by size_fits)))) (by size_fits))
  simp only [raiseNew]
  refine wpAny_bind (wpAny_handled ?_)
  rw [show A.in1.handled = none from hh]
  refine wpAny_bind (wpAny_pure (wpAny_throw ?_))
  refine wpAny_bind (wpAny_isInstance (b := true) (T := "StopIteration") ⟨_, Heap.get?_push_size _ rfl, rfl⟩ isSubtype_stop ?_)
  exact wpAny_pure (q _ (((Heap.SameBut.update ..).extBut.push _).push _))
theorem rd_walks (hh : A.handled = none) (hne : d ≠ it) (es : Array DictEntry) (p : Nat) :
    Walks prog w A it [it, d] [it] es.size (fun i v => ∃ e, es[i]? = some e ∧ v = e.key) (fun i h => h.IsKeyIter it d i es.size p ∧ RawD d es p h) where
  sub := fun b hb => by simp at hb; simp [hb]
  frame := fun _ _ _ st k => ⟨st.1.at fun o e => k it (by simp) o e, st.2.at fun o e => k d (by simp) o e⟩
  item := fun i s Q E hi st q => by
    have hx : es[i]? = some es[i] := by simp [hi]
    exact rd_item st.1 st.2 hx fun h' st' sb => q _ h' s.toks ⟨_, hx, rfl⟩ ⟨st', st.2.at fun o e => sb.extBut d o hne e⟩ fun b o hb e => sb.extBut b o (fun z => hb (by simp [z])) e
  done := fun s Q E st q => rd_end hh st.1 st.2 (by simp) fun h' eb => q h' s.toks fun b o hb e => eb b o (fun z => hb (by simp [z])) e
  self := fun _ _ _ _ st q => wpAny_pyIter_keyiter st.1 q
theorem rd_src (lo : (d == sysModules) = false) : KdlSrc prog w "dict" d d es.size (fun i v => ∃ e, es[i]? = some e ∧ v = e.key) (RawD d es p) where
  type := fun _ r => r.ty
  there := fun _ r => ⟨r.lt, r.lt⟩
  keep := fun _ _ r k => r.at fun o e => k d (.inl rfl) o e
  notList := by decide
  notTuple := by decide
  hint := fun _ _ _ _ r q => kdl_hint_dict r.ty q
  iter := fun _ _ hh r => ⟨_, _, fun _ _ q => rd_iter lo r q, rd_walks hh (Nat.ne_of_lt r.lt) es p, ⟨⟨_, Heap.get?_push_size _ rfl, rfl, rfl⟩, r.at fun o e => Heap.get?_push_of_some _ e⟩⟩
end
end L3
namespace L3
open PySem PySem.Spec PyProof.Rows L2 PySem.W
section
variable {prog : Program} {w : World} {A : Around} {E : Value → Shared → Prop} {s : Shared} {d : Addr} {es : Array DictEntry} {p : Nat}
theorem rd_len {Q : Value → Shared → Prop} (lo : (d == sysModules) = false) (r : RawD d es p s.heap) (z : es.size ≤ sizeLine) (q : ∀ t s', s'.heap = s.heap → s' = { s with toks := s'.toks } → Q (.int es.size t) s') : wpAny (model prog w) A (call (.builtin "len") [.ref d]) Q E s := by
  have zz : es.size ≤ 16777216 := by rw [sizeLine_eq] at z; exact z
  have mt : MeetsIn prog w (Builtin.«dict.__len__» ⟨[.ref d], []⟩) (fun _ R s => RawD d es p s.heap ∧ R (.ok (.ret (.int es.size s.toks))) { s with toks := s.toks + 1 }) := .of_wp fun A R s ⟨r, h⟩ => by
    obtain ⟨b, eb, xb, db⟩ := r
    show wpAny _ _ (dictSize d >>= fun _ => _) _ _ s
    unfold dictSize
    refine wpAny_bind (wpAny_bind (wpAny_dictEntries eb db (wpAny_pure ?_)))
    show wpAny _ _ (Builtin.Dict.pendingCount d >>= fun _ => _) _ _ s
    exact wpAny_bind (wpAny_pendingCount_other lo (wpAny_ret_mkInt h))
  refine Calls.call_function_entry kind_len plain_len entry_len (args_len1 _) ?_
  unfold Builtin.«len»
  refine wpAny_bind (m := oneArg "len" _) (wpAny_pure ?_)
  refine wpAny_bind (m := callSpecial? (.ref d) (Str.ofString "__len__")) (wpAny_callSpecial?_slot (name := Str.ofString "__len__") r.ty PySem.F.slot_dict_len
    (call_meetsIn PySem.F.slot_dict_len r.ty PySem.F.entry_dict_len (PySem.F.args_dict_len_1 _) mt ⟨r, ?_⟩))
  refine wpAny_bind (wpAny_holding (wpAny_pure (wpAny_bind (wpAny_letGo ?_))))
  show wpAny _ _ (if ((es.size : Nat) : Int) < 0 then _ else _) _ _ _
  rw [if_neg (by omega)]
  show wpAny _ _ (if ((es.size : Nat) : Int) ≥ 2 ^ 63 then _ else _) _ _ _
  rw [if_neg (by omega)]
  exact wpAny_bind (wpAny_mkInt (wpAny_pure ⟨_, rfl, q _ _ rfl rfl⟩))
end
end L3
namespace L3
open PySem PySem.Spec PyProof.Rows L2 PySem.W
theorem paired_at {α β : Type} {F : α → β → Prop} : ∀ {l : List α} {m : List β} {i : Nat} {a : α}, Paired F l m → l[i]? = some a → ∃ b, m[i]? = some b ∧ F a b
  | _, _, _, _, .nil, e => by simp at e
  | _, _, 0, _, .cons r _, e => by simp at e; subst e; exact ⟨_, rfl, r⟩
  | _, _, i + 1, a, .cons _ t, e => by
    obtain ⟨b, h1, h2⟩ := paired_at (i := i) (a := a) t (by simpa using e)
    exact ⟨b, by simpa using h1, h2⟩
theorem vals_by {ys : List V} {us : List Value} (hl : us.length = ys.length) (h : ∀ (i : Nat) (u : Value) (y : V), us[i]? = some u → ys[i]? = some y → RelV y u) : Vals ys us := by
  induction ys generalizing us with
  | nil => cases us with | nil => exact .nil | cons _ _ => cases hl
  | cons y ys ih =>
    cases us with
    | nil => cases hl
    | cons u us => exact .cons (h 0 u y rfl rfl) (ih (Nat.succ.inj hl) fun i u' y' e1 e2 => h (i + 1) u' y' (by simpa using e1) (by simpa using e2))
section
variable {X : Cx} {pins : List (Addr × Obj)} {σ : L2.St} {H : Hp} {s : Shared} {a : Addr}
theorem raw_k {kvs : List (Key × V)} (I : Inv X pins σ H s) (e : H a = some (.dK kvs)) : kvs.length ≤ sizeLine ∧ (a == sysModules) = false ∧ ∃ es p, RawD a es p s.heap ∧ es.size = kvs.length ∧ ∀ (i : Nat) (x : DictEntry) (kv : Key × V), es[i]? = some x → kvs[i]? = some kv → RelV (kV kv.1) x.key := by
  obtain ⟨z, lo, vs, r, o, es, p, h1, h2, h3, h4, h5, h6⟩ := (show ObjOk X.prog X.w H s.heap a (.dK kvs) from I.hok a _ e)
  have hsz : es.size = kvs.length := by rw [r.length, ← h5.length]; simp
  refine ⟨z, lo, es, p, ⟨o, h1, h2, h3⟩, hsz, fun i x kv ex ek => ?_⟩
  obtain ⟨q, hq, ⟨e1, _⟩⟩ := paired_at r ek
  have hk := (h5.get? (i := i) (e := x) (k := q.1) (v := q.2) (by rw [Array.getElem?_toList]; exact ex) hq).1
  rw [e1]
  rcases keyIs_shape hk with ⟨n, t, h7, h8⟩ | ⟨n, t, h7, h8⟩
  · rw [h7, h8]; exact ⟨t, rfl⟩
  · rw [h7, h8]; exact ⟨t, rfl⟩
theorem raw_t {kvs : List (List Key × V)} (I : Inv X pins σ H s) (e : H a = some (.dT kvs)) : kvs.length ≤ sizeLine ∧ (a == sysModules) = false ∧ ∃ es p, RawD a es p s.heap ∧ es.size = kvs.length ∧
    ∃ bs : List Addr, Paired (fun (kv : List Key × V) b => H b = some (.tup (kv.1.map kV))) kvs bs ∧ ∀ (i : Nat) (x : DictEntry) (b : Addr), es[i]? = some x → bs[i]? = some b → x.key = .ref b := by
  obtain ⟨z, lo, xs, r, o, es, p, h1, h2, h3, h4, h9⟩ := (show ObjOk X.prog X.w H s.heap a (.dT kvs) from I.hok a _ e)
  have hsz : es.size = kvs.length := by rw [Paired.length r, ← Array.length_toList, h4, List.length_map]
  refine ⟨z, lo, es, p, ⟨o, h1, h2, h3⟩, hsz, xs.map (·.2.1), ?_, fun i x b ex eb => ?_⟩
  · clear h4 h9 hsz z e
    induction r with
    | nil => exact .nil
    | cons q _ ih => exact .cons q.2.1 ih
  · rw [← Array.getElem?_toList, h4, List.getElem?_map] at ex
    rw [List.getElem?_map] at eb
    cases hx : xs[i]? with
    | none => rw [hx] at eb; cases eb
    | some q =>
      rw [hx] at ex eb
      cases ex
      cases eb
      rfl
def DLen (H : Hp) (a : Addr) (n : Nat) : Prop := (∃ kvs, H a = some (.dK kvs) ∧ n = kvs.length) ∨ ∃ kvs, H a = some (.dT kvs) ∧ n = kvs.length
theorem call_len_d : CallR X (.builtin "len") (fun xs H Q => ∃ a n, xs = [.ref a] ∧ DLen H a n ∧ Q (.int n) H) := by
  intro pins s σ H xs us Q I r h
  obtain ⟨a, n, rfl, hd, q⟩ := h
  obtain ⟨u, rfl, ru⟩ := vals1 r
  cases ru
  rcases hd with ⟨kvs, e, rfl⟩ | ⟨kvs, e, rfl⟩
  · obtain ⟨z, lo, es, p, rr, hs, _⟩ := raw_k I e
    refine rd_len lo rr (by rw [hs]; exact z) fun t s' _ e' => ?_
    rw [e', hs]
    exact ⟨.int kvs.length, H, I.tok _, ⟨t, rfl⟩, q⟩
  · obtain ⟨z, lo, es, p, rr, hs, _⟩ := raw_t I e
    refine rd_len lo rr (by rw [hs]; exact z) fun t s' _ e' => ?_
    rw [e', hs]
    exact ⟨.int kvs.length, H, I.tok _, ⟨t, rfl⟩, q⟩
def rListD : List V → Hp → VK → Prop := fun xs H Q => ∃ a, xs = [.ref a] ∧
  ((∃ kvs, H a = some (.dK kvs) ∧ ∀ l, H l = none → Q (.ref l) (upd H l (.lst (kvs.map fun kv => kV kv.1)))) ∨
   ∃ kvs, H a = some (.dT kvs) ∧ ∀ (bs : List Addr) l, Paired (fun (kv : List Key × V) b => H b = some (.tup (kv.1.map kV))) kvs bs → H l = none → Q (.ref l) (upd H l (.lst (bs.map V.ref))))
theorem call_list_d (hc : X.calm = true) : CallR X (.type "list") rListD := by
  intro pins s σ H xs us Q I r h
  obtain ⟨a, rfl, h⟩ := h
  obtain ⟨u, rfl, ru⟩ := vals1 r
  cases ru
  have fin : ∀ (ys : List V) (es : Array DictEntry) (h' : Heap) (tk : Nat) (acc : Array Value) (c : Nat), ys.length ≤ sizeLine → es.size = ys.length → (∀ (i : Nat) (x : DictEntry) (y : V), es[i]? = some x → ys[i]? = some y → RelV y x.key) →
      (∀ b o, s.heap.get? b = some o → h'.get? b = some o) → h'.get? s.heap.objs.size = some { cls := .type "list", dict := none, data := .seq acc c, slots := #[] } → ItemsOf (fun i v => ∃ e, es[i]? = some e ∧ v = e.key) acc es.size →
      (∀ l, H l = none → Q (.ref l) (upd H l (.lst ys))) → EP X pins σ Q (.ref s.heap.objs.size) { s with heap := h', toks := tk } := fun ys es h' tk acc c z hs hr kp e it q => by
    refine ⟨.ref s.heap.objs.size, _, I.laid (t' := tk) (o := .lst ys) kp (Nat.le_refl _) ⟨z, acc.toList, c, vals_by (by rw [Array.length_toList, it.1, hs]) fun i u y e1 e2 => ?_, ?_⟩, rfl, q _ (I.hok.fresh (Nat.le_refl _))⟩
    · obtain ⟨x, ex, rfl⟩ := it.2 i u (by rw [← Array.getElem?_toList]; exact e1)
      exact hr i x y ex e2
    · rw [Array.toArray_toList]; exact e
  rcases h with ⟨kvs, e, q⟩ | ⟨kvs, e, q⟩
  · obtain ⟨z, lo, es, p, rr, hs, hr⟩ := raw_k I e
    refine kdl_call (rd_src (p := p) lo) (I.ok.hd hc) rr (by rw [hs]; exact z) fun h' tk acc c kp e' it => fin _ es h' tk acc c (by rw [List.length_map]; exact z) (by rw [List.length_map]; exact hs) (fun i x y ex ey => ?_) kp e' it q
    rw [List.getElem?_map] at ey
    cases hk : kvs[i]? with
    | none => rw [hk] at ey; cases ey
    | some kv => rw [hk] at ey; cases ey; exact hr i x kv ex hk
  · obtain ⟨z, lo, es, p, rr, hs, bs, pb, hr⟩ := raw_t I e
    have hb := Paired.length pb
    refine kdl_call (rd_src (p := p) lo) (I.ok.hd hc) rr (by rw [hs]; exact z) fun h' tk acc c kp e' it => fin _ es h' tk acc c (by rw [List.length_map, ← hb]; exact z) (by rw [List.length_map, ← hb]; exact hs) (fun i x y ex ey => ?_) kp e' it fun l hl => q bs l pb hl
    rw [List.getElem?_map] at ey
    cases hk : bs[i]? with
    | none => rw [hk] at ey; cases ey
    | some b => rw [hk] at ey; cases ey; exact hr i x b ex hk
end
end L3
namespace L3
open PySem PySem.Spec PyProof.Rows L2
theorem bt_sorted : bootBuiltins "sorted" = some (.builtin "sorted") := by decide +kernel
theorem for_str {x : Str} {g : TG} {tb : TS} {D : Ends} {σ : L2.St} {H : Hp} (Pv : Nat → L2.St → Hp → Prop) (h0 : Pv 0 σ H)
    (hs : ∀ i c σ H, x.cps.toList[i]? = some c → Pv i σ H → g (.str ⟨#[c]⟩) σ H fun σ2 H2 => tb { D with nx := Pv (i + 1), ct := Pv (i + 1), bk := D.nx } σ2 H2) (hd : ∀ σ H, Pv x.cps.toList.length σ H → D.nx σ H) :
    ∃ W : Nat → Nat → L2.St → Hp → Prop, (∃ m, W 0 m σ H) ∧ ∀ i m σ H, W i m σ H →
      ((Its x).stop i H ∧ D.nx σ H) ∨ ((Its x).go i H ∧ ∃ N : L2.St → Hp → Prop, (∀ σ' H', N σ' H' → ∃ m', m' < m ∧ W (i + 1) m' σ' H') ∧ ∀ v H', (Its x).yld i H v H' → g v σ H' fun σ2 H2 => tb { D with nx := N, ct := N, bk := D.nx } σ2 H2) := by
  refine ⟨fun i m σ H => m = x.cps.size - i ∧ i ≤ x.cps.size ∧ Pv i σ H, ⟨x.cps.size, by simp, Nat.zero_le _, h0⟩, ?_⟩
  rintro i m σ H ⟨rfl, hi, p⟩
  by_cases c : i < x.cps.size
  · refine .inr ⟨c, Pv (i + 1), fun σ' H' p' => ⟨x.cps.size - (i + 1), by omega, rfl, c, p'⟩, fun v H' y => ?_⟩
    obtain ⟨rfl, k, hk, rfl⟩ := y
    exact hs i k σ _ (by rw [Array.getElem?_toList]; exact hk) p
  · have e : i = x.cps.toList.length := by rw [Array.length_toList]; omega
    refine .inl ⟨Nat.le_of_not_lt c, hd σ H (e ▸ p)⟩
end L3
namespace L3
open PySem PySem.Spec PyProof.Rows L2
section
variable {X : Cx} {pins : List (Addr × Obj)} {σ : List (Option V)} {H : Hp} {s : Shared} {h' : Heap}
theorem turned2 {t' : Nat} {e it : Addr} (I : Inv X pins σ H s) (k : ∀ b o, b ≠ e → b ≠ it → s.heap.get? b = some o → h'.get? b = some o) (fe : FpOk X pins H e) (fi : FpOk X pins H it) : Inv X pins σ H { s with heap := h', toks := t' } := by
  have ne : ∀ b u, H b = some u → b ≠ e ∧ b ≠ it := fun b u q => ⟨(fun z => by rw [z, fe.1] at q; cases q), (fun z => by rw [z, fi.1] at q; cases q)⟩
  have kk : ∀ b o, b ∉ [e, it] → s.heap.get? b = some o → h'.get? b = some o := fun b o hc q => k b o (fun z => hc (by simp [z])) (fun z => hc (by simp [z])) q
  refine I.step (g' := s.gens) (d' := s.drawn) (ch := [e, it]) ?_ (fun b o _ _ hc q _ => kk b o hc q) (fun b o _ _ hc q _ => ⟨o.slots, kk b o hc q⟩) (fun _ _ _ _ n => n)
    (fun b o hc q => ⟨o, kk b o hc q⟩) (fun _ _ q => q) (fun _ _ _ q => q) (fun b ps q => ⟨#[], by rw [q]; simp⟩) ?_ ?_ I.bare
  · intro b hb
    have hb : b = e ∨ b = it := by simpa using hb
    rcases hb with rfl | rfl
    · exact ⟨fe.2.2.2.1, fe.2.1, fe.2.2.2.2.1, fe.2.2.2.2.2⟩
    · exact ⟨fi.2.2.2.1, fi.2.1, fi.2.2.2.2.1, fi.2.2.2.2.2⟩
  · rintro m ⟨o, es, ep, ho, r⟩
    exact ⟨o, es, ep, k _ o (Ne.symm fe.2.1) (Ne.symm fi.2.1) ho, r⟩
  · intro b u q
    refine (I.hok b u q).stay (fun c v hc z => ?_) (fun _ z => z) fun _ _ z => z
    have : c ≠ e ∧ c ≠ it := by
      rcases hc with y | y
      · rw [y]; exact ne b u q
      · exact ne c _ y
    exact k c v this.1 this.2 z
end
def Ite (K : PySem.W.Frag) (a : Addr) : It :=
  ⟨fun i H => ∃ xs x, SqL K H a xs ∧ xs[i]? = some x, fun i H x H' => ∃ p y, H p = none ∧ x = .ref p ∧ H' = upd H p (.tup [.int i, y]) ∧ ∀ xs, SqL K H a xs → xs[i]? = some y, fun i H => ∃ xs, SqL K H a xs ∧ xs.length ≤ i⟩
theorem turn_enum {P : Program} {w : World} {K : PySem.W.Frag} {es : List Expr} {x1 : Nat} {tp : Pos} {a e it : Addr} (hne : e ≠ it) :
    Turn P w K (.Tuple es x1 tp) (Ite K a) [e, it] e (fun i h => ∃ old, IsEnum h e it (i : Int) old ∧ h.IsListIter it a i) where
  mem := by simp
  obj := by
    rintro i h ⟨old, he, o, e1, c, d⟩ b hb
    have hb : b = e ∨ b = it := by simpa using hb
    rcases hb with rfl | rfl
    · exact ⟨_, he, fun v z => by cases z⟩
    · exact ⟨o, e1, fun v z => by rw [d] at z; cases z⟩
  keep := by
    rintro i h h' ⟨old, he, st⟩ k
    exact ⟨old, k e (by simp) _ he, st.at fun o q => k it (by simp) o q⟩
  item := by
    intro X hP hw hK hc i pins s σ H E I hf st hg
    subst hP hw hK
    obtain ⟨old, he, hit⟩ := st
    obtain ⟨xs, x, hq, hx⟩ := hg
    obtain ⟨its, rv, p, hz⟩ := I.list hq
    obtain ⟨u, hu, ru⟩ := rv.get hx
    have fe := hf e (by simp)
    have fi := hf it (by simp)
    refine wpAny_pyNext_enum_item he hit p.isList (x := u) (by simpa using hu) hne fun h1 heo hit1 ht1 hz1 hk1 => ⟨_, rfl, ?_⟩
    refine wpAny_letOwnedTupleGo_enum heo fun h2 he2 hs2 => ?_
    replace hs2 : Heap.SameBut e h1 h2 := hs2
    have hel : e < s.heap.objs.size := Heap.lt_size he
    have hil : it < s.heap.objs.size := by obtain ⟨o, ho, _⟩ := hit; exact Heap.lt_size ho
    have hp0 : H s.heap.objs.size = none := I.hok.fresh (Nat.le_refl _)
    have ht2 : h2.get? s.heap.objs.size = some { cls := .type "tuple", data := .seq #[.int i s.toks, u] } := (hs2.2 _ (Nat.ne_of_gt hel)).trans ht1
    have I1 : Inv X pins σ (upd H s.heap.objs.size (.tup [.int i, x])) { s with heap := s.heap.push { cls := .type "tuple", data := .seq #[.int i s.toks, u] }, toks := s.toks + 1 } :=
      I.laid (fun b v q => Heap.get?_push_of_some _ q) (Nat.le_refl _) ⟨by show 2 ≤ sizeLine; decide, [.int i s.toks, u], .cons ⟨_, rfl⟩ (.cons ru .nil), ⟨_, Heap.get?_push_size _ rfl, rfl, _, rfl⟩⟩
    have off : ∀ b, b < s.heap.objs.size → FpOk X pins H b → FpOk X pins (upd H s.heap.objs.size (.tup [.int i, x])) b := fun b hb f => ⟨by rw [upd_ne (Nat.ne_of_lt hb)]; exact f.1, f.2⟩
    have I2 : Inv X pins σ (upd H s.heap.objs.size (.tup [.int i, x])) { s with heap := h2, toks := s.toks + 1 } := turned2 (s := { s with heap := s.heap.push { cls := .type "tuple", data := .seq #[.int i s.toks, u] }, toks := s.toks + 1 }) (t' := s.toks + 1) I1 (fun b o n1 n2 q => by
      replace q : (s.heap.push { cls := .type "tuple", data := .seq #[.int i s.toks, u] }).get? b = some o := q
      rcases Heap.get?_push_cases q with ⟨z, z'⟩ | q'
      · subst z; subst z'; exact ht2
      · exact (hs2.2 b n1).trans (hk1 b o n1 n2 q')) (off e hel fe) (off it hil fi)
    refine ⟨.ref s.heap.objs.size, _, I2, rfl, ⟨_, x, hp0, rfl, rfl, fun ys hy => by rw [I.list_inj hy hq]; exact hx⟩, ⟨u, ?_, ?_⟩, fun b hb => ?_⟩
    · have e1 : ((i + 1 : Nat) : Int) = (i : Int) + 1 := by push_cast; rfl
      rw [e1]; exact he2
    · exact hit1.extBut hs2.extBut (Ne.symm hne)
    · have hb : b = e ∨ b = it := by simpa using hb
      rcases hb with rfl | rfl
      · exact (off _ hel fe).1
      · exact (off _ hil fi).1
  done := by
    intro X hP hw hK hc i pins s σ H E I hf st hg
    subst hP hw hK
    obtain ⟨old, he, hit⟩ := st
    obtain ⟨xs, hq, hx⟩ := hg
    obtain ⟨its, rv, p, hz⟩ := I.list hq
    have hl := rv.length
    obtain ⟨f0, f1, f2, f3, f4, f5⟩ := hf it (by simp)
    exact wpAny_pyNext_enum_end (I.ok.hd hc) he hit p.isList (by simp; omega) fun h' eb => ⟨rfl, I.turned (t' := s.toks) (fun b o hb q => eb b o hb q) f0 f1 f3 f4 f5⟩
  self := fun _ _ _ _ _ ⟨_, he, _⟩ h => wpAny_pyIter_enum he h
section
variable {X : Cx}
def iEnu (K : PySem.W.Frag) (ta : TA) : TI := fun σ H R => ta σ H fun vs H1 => ∃ a, vs = [.ref a] ∧ (∃ xs, SqL K H1 a xs) ∧ R (Ite K a) H1
theorem pi_enu {l : Expr} {ta : TA} {p pos tp : Pos} {es : List Expr} {x1 : Nat} (hg : Gl X "enumerate") (hm : X.mg "enumerate" = none) (ha : PA X [l] ta) (hs : starEach [l] X.env = [(false, eval l X.env)] := by rfl) :
    PI X (.Tuple es x1 tp) (.Call (.Name "enumerate" p) [l] [] pos) (iEnu X.K ta) := by
  intro pins s σ H R I h
  refine Call_ (ld_blt I hg hm boot_enumerate (PyProof.Rows.callWith_type1 (thn (ha pos pins s σ H _ I h) fun us s1 ⟨vs, H1, I1, r1, q1⟩ => ?_) hs rfl))
  obtain ⟨a, rfl, ⟨xs, hq⟩, q⟩ := q1
  cases r1 with
  | cons r rr =>
    cases rr
    cases r
    obtain ⟨its, rv, pL, hz⟩ := I1.list hq
    refine call_enumerate_list pL.isList fun h' he hit hz' hk => ?_
    refine wpAny_pyIter_enum he ?_
    refine ⟨_, [s1.heap.objs.size + 1, s1.heap.objs.size], _, _, H1, rfl, I1.kept (t' := s1.toks) hk, turn_enum (e := s1.heap.objs.size + 1) (it := s1.heap.objs.size) (Nat.succ_ne_self _), ⟨.none, he, hit⟩, fun b hb => ?_, q⟩
    have hb : b = s1.heap.objs.size + 1 ∨ b = s1.heap.objs.size := by simpa using hb
    rcases hb with rfl | rfl
    · exact I1.fpOk (by omega) (I1.hok.fresh (by omega))
    · exact I1.fpOk (Nat.le_refl _) (I1.hok.fresh (Nat.le_refl _))
end
theorem for_enu {K : PySem.W.Frag} {a : Addr} {xs : List V} {g : TG} {tb : TS} {D : Ends} {σ : L2.St} {H : Hp} (Pv : Nat → L2.St → Hp → Prop) (h0 : Pv 0 σ H) (hl : ∀ i σ H, i ≤ xs.length → Pv i σ H → SqL K H a xs)
    (hs : ∀ i x p σ H, xs[i]? = some x → Pv i σ H → H p = none → g (.ref p) σ (upd H p (.tup [.int i, x])) fun σ2 H2 => tb { D with nx := Pv (i + 1), ct := Pv (i + 1), bk := D.nx } σ2 H2) (hd : ∀ σ H, Pv xs.length σ H → D.nx σ H) :
    ∃ W : Nat → Nat → L2.St → Hp → Prop, (∃ m, W 0 m σ H) ∧ ∀ i m σ H, W i m σ H →
      ((Ite K a).stop i H ∧ D.nx σ H) ∨ ((Ite K a).go i H ∧ ∃ N : L2.St → Hp → Prop, (∀ σ' H', N σ' H' → ∃ m', m' < m ∧ W (i + 1) m' σ' H') ∧ ∀ x H', (Ite K a).yld i H x H' → g x σ H' fun σ2 H2 => tb { D with nx := N, ct := N, bk := D.nx } σ2 H2) := by
  refine ⟨fun i m σ H => m = xs.length - i ∧ i ≤ xs.length ∧ Pv i σ H, ⟨xs.length, by simp, Nat.zero_le _, h0⟩, ?_⟩
  rintro i m σ H ⟨rfl, hi, p⟩
  have q := hl i σ H hi p
  by_cases hlt : i < xs.length
  · refine .inr ⟨⟨xs, xs[i], q, by simp [hlt]⟩, Pv (i + 1), fun σ' H' p' => ⟨xs.length - (i + 1), by omega, rfl, hlt, p'⟩, fun x H' y => ?_⟩
    obtain ⟨b, z, hb, rfl, rfl, y⟩ := y
    exact hs i z b σ H (y xs q) p hb
  · have e : i = xs.length := by omega
    subst e
    exact .inl ⟨⟨xs, q, Nat.le_refl _⟩, hd σ H p⟩
end L3
namespace L3
open PySem PySem.Spec PyProof.Rows L2
section
variable {X : Cx} {pins : List (Addr × Obj)} {σ : List (Option V)} {H : Hp} {s : Shared}
theorem hold_k {a : Addr} {kvs : List (Key × V)} (I : Inv X pins σ H s) (e : H a = some (.dK kvs)) : ∃ o, s.heap.get? a = some o ∧ Inv X pins σ (upd H a (.frz o (.dK kvs))) s := by
  have x := (show ObjOk X.prog X.w H s.heap a (.dK kvs) from I.hok a _ e)
  obtain ⟨z, lo, vs, r, o, es, p, h1, h2⟩ := id x
  refine ⟨o, h1, ?_⟩
  have := I.write (x := a) (e := a) (h' := s.heap) (t' := s.toks) (o := .frz o (.dK kvs)) (by rw [e]; trivial) (.inl rfl) (fun b u _ q => q) ⟨o, h1⟩ ⟨h1, z, lo, vs, r, o, es, p, h1, h2⟩
  exact this
end
def Itk (d : Addr) (o : Obj) : It :=
  ⟨fun i H => ∃ kvs kv, H d = some (.frz o (.dK kvs)) ∧ kvs[i]? = some kv, fun i H x H' => H' = H ∧ ∀ kvs, H d = some (.frz o (.dK kvs)) → ∃ kv, kvs[i]? = some kv ∧ x = kV kv.1, fun i H => ∃ kvs, H d = some (.frz o (.dK kvs)) ∧ kvs.length ≤ i⟩
theorem frz_inj {H : Hp} {d : Addr} {o : Obj} {a b : List (Key × V)} (h1 : H d = some (.frz o (.dK a))) (h2 : H d = some (.frz o (.dK b))) : a = b := by
  rw [h1] at h2; injection h2 with h2; injection h2 with _ h2; injection h2
theorem turn_keys {P : Program} {w : World} {K : PySem.W.Frag} {tg : Expr} {d it : Addr} {o : Obj} {es : Array DictEntry} {ep : Nat} (ho : o.data = .dict es ep) :
    Turn P w K tg (Itk d o) [it] it (fun i h => h.IsKeyIter it d i es.size ep) where
  mem := by simp
  obj := by
    rintro i h ⟨q, e1, c, d⟩ b hb
    have hb : b = it := by simpa using hb
    subst hb
    exact ⟨q, e1, fun v z => by rw [d] at z; cases z⟩
  keep := by
    rintro i h h' ⟨q, e1, r⟩ k
    exact ⟨q, k it (by simp) q e1, r⟩
  item := by
    intro X hP hw hK hc i pins s σ H E I hf st hg
    subst hP hw hK
    obtain ⟨kvs, kv, e, hx⟩ := hg
    obtain ⟨g1, z, lo, vs, r, o', es', ep', h1, h2, h3, h4, h5, h6⟩ := (show ObjOk X.prog X.w H s.heap d (.frz o (.dK kvs)) from I.hok d _ e)
    have eo : o' = o := by rw [h1] at g1; injection g1
    subst eo
    rw [h3] at ho
    injection ho with e1 e2
    subst e1; subst e2
    have hsz : es'.size = vs.length := by rw [← h5.length]; simp
    obtain ⟨q, hq, ⟨k1, _⟩⟩ := paired_at r hx
    obtain ⟨f0, f1, f2, f3, f4, f5⟩ := hf it (by simp)
    rw [hsz] at st
    refine wpAny_pyNext_dict_item (knd := mixKind X.prog X.w) (k := q.1) (v := q.2) st ⟨o', es', h1, h2, h3, h4, h5, h6⟩ hq fun key h' hk st' sb => ?_
    have I1 : Inv X pins σ H { s with heap := h' } := I.turned (t' := s.toks) (fun b u hb e => (sb.2 b hb).trans e) f0 f1 f3 f4 f5
    have rk : RelV (kV kv.1) key := by
      rw [k1]
      rcases keyIs_shape hk with ⟨n, t, h7, h8⟩ | ⟨n, t, h7, h8⟩
      · rw [h7, h8]; exact ⟨t, rfl⟩
      · rw [h7, h8]; exact ⟨t, rfl⟩
    obtain ⟨q2, e2, c2, d2⟩ := id st'
    rw [← hsz] at st'
    exact ⟨key, rfl, go_of (s := { s with heap := h' }) e2 c2 d2 (by decide) ⟨kV kv.1, H, I1, rk, ⟨rfl, fun ws hw => ⟨kv, by rw [frz_inj hw e]; exact hx, rfl⟩⟩, st', fun b hb => (hf b hb).1⟩⟩
  done := by
    intro X hP hw hK hc i pins s σ H E I hf st hg
    subst hP hw hK
    obtain ⟨kvs, e, hx⟩ := hg
    obtain ⟨g1, z, lo, vs, r, o', es', ep', h1, h2, h3, h4, h5, h6⟩ := (show ObjOk X.prog X.w H s.heap d (.frz o (.dK kvs)) from I.hok d _ e)
    have eo : o' = o := by rw [h1] at g1; injection g1
    subst eo
    rw [h3] at ho
    injection ho with e1 e2
    subst e1; subst e2
    have hsz : es'.size = vs.length := by rw [← h5.length]; simp
    have hvl : kvs.length = vs.length := r.length
    obtain ⟨f0, f1, f2, f3, f4, f5⟩ := hf it (by simp)
    rw [hsz] at st
    exact wpAny_pyNext_dict_end (knd := mixKind X.prog X.w) (I.ok.hd hc) st ⟨o', es', h1, h2, h3, h4, h5, h6⟩ (List.getElem?_eq_none (by omega)) fun h' eb => ⟨rfl, I.turned (t' := s.toks) (fun b u hb q => eb b u hb q) f0 f1 f3 f4 f5⟩
  self := fun _ _ _ _ _ st h => wpAny_pyIter_keyiter st h
section
variable {X : Cx} {tg : Expr}
def iKeys (tl : TE) : TI := fun σ H R => tl σ H fun x H1 => ∃ d kvs, x = .ref d ∧ H1 d = some (.dK kvs) ∧ ∀ o, R (Itk d o) (upd H1 d (.frz o (.dK kvs)))
theorem pi_keys {l : Expr} {tl : TE} (hl : PE X l tl) : PI X tg l (iKeys tl) := by
  intro pins s σ H R I h
  refine thn (hl pins s σ H _ I h) fun v s1 ⟨x, H1, I1, r1, q1⟩ => ?_
  obtain ⟨d, kvs, e, hd, q⟩ := q1
  subst e
  cases r1
  obtain ⟨o, h0, I2⟩ := hold_k I1 hd
  obtain ⟨z, lo, vs, r, o', es, ep, h1, h2, h3, h4, h5, h6⟩ := (show ObjOk X.prog X.w H1 s1.heap d (.dK kvs) from I1.hok d _ hd)
  have eo : o' = o := by rw [h1] at h0; injection h0
  subst eo
  have hsz : es.size = vs.length := by rw [← h5.length]; simp
  refine wpAny_pyIter_dict (knd := mixKind X.prog X.w) lo ⟨o', es, h1, h2, h3, h4, h5, h6⟩ ?_
  refine ⟨s1.heap.objs.size, [s1.heap.objs.size], _, _, _, rfl, I2.kept (t' := s1.toks) fun b u e => Heap.get?_push_of_some _ e, turn_keys h3, ⟨_, Heap.get?_push_size _ rfl, rfl, by rw [hsz]; rfl⟩, fun b hb => ?_, q o'⟩
  have e : b = s1.heap.objs.size := by simpa using hb
  subst e
  exact I2.fpOk (Nat.le_refl _) (I2.hok.fresh (Nat.le_refl _))
end
theorem comp_keys {d : Addr} {o : Obj} {kvs : List (Key × V)} {g : TG} {tf : TT} {te : TE} {τ : L2.St} {H : Hp} {Q : VK} (Pv : Nat → List V → L2.St → Hp → Prop) (h0 : Pv 0 [] τ H) (hl : ∀ i ys τ H, Pv i ys τ H → H d = some (.frz o (.dK kvs)))
    (hs : ∀ i kv ys τ H, kvs[i]? = some kv → Pv i ys τ H → g (kV kv.1) τ H fun τ2 H2 => tf τ2 H2 fun b H3 => if b = true then te τ2 H3 fun y H4 => ys.length < sizeLine ∧ Pv (i + 1) (ys ++ [y]) τ2 H4 else Pv (i + 1) ys τ2 H3)
    (hd : ∀ ys τ H, Pv kvs.length ys τ H → ∀ p, H p = none → Q (.ref p) (upd H p (.lst ys))) : CompGo (Itk d o) g tf te Q τ H := by
  refine ⟨fun i m ys τ H => m = kvs.length - i ∧ i ≤ kvs.length ∧ Pv i ys τ H, ⟨kvs.length, by simp, Nat.zero_le _, h0⟩, ?_⟩
  rintro i m ys τ H ⟨rfl, hi, p⟩
  have q := hl i ys τ H p
  by_cases hlt : i < kvs.length
  · refine .inr ⟨⟨kvs, kvs[i], q, by simp [hlt]⟩, Pv (i + 1), fun ys' τ' H' p' => ⟨kvs.length - (i + 1), by omega, rfl, hlt, p'⟩, fun x H' y => ?_⟩
    obtain ⟨rfl, y⟩ := y
    obtain ⟨kv, hk, rfl⟩ := y kvs q
    exact hs i kv ys τ _ hk p
  · have e : i = kvs.length := by omega
    subst e
    exact .inl ⟨⟨kvs, q, Nat.le_refl _⟩, hd ys τ H p⟩
end L3
namespace L3
open PySem PySem.Spec PyProof.Rows L2
theorem ints_of_vals : ∀ {vs : List Value} {ns : List Int}, Vals (ns.map V.int) vs → IntsAre vs ns
  | _, [], r => by cases r; exact .nil
  | _, n :: ns, r => by
    cases r with
    | cons r1 r2 =>
      obtain ⟨t, rfl⟩ := r1
      exact .cons n t (ints_of_vals r2)
theorem vals_of_ints : ∀ {vs : List Value} {ns : List Int}, IntsAre vs ns → Vals (ns.map V.int) vs
  | _, _, .nil => .nil
  | _, _, .cons n t r => .cons ⟨t, rfl⟩ (vals_of_ints r)
section
variable {X : Cx}
def rSortI (K : PySem.W.Frag) : List V → Hp → VK → Prop := fun xs H Q => ∃ (a : Addr) (ns : List Int), xs = [.ref a] ∧ SqL K H a (ns.map V.int) ∧ ns.length < 64 ∧ ∀ (l : Addr) (ns' : List Int), ns'.Perm ns → ns'.Pairwise (· ≤ ·) → H l = none → Q (.ref l) (upd H l (.lst (ns'.map V.int)))
theorem call_sorted_i : CallR X (.builtin "sorted") (rSortI X.K) := by
  intro pins s σ H xs us Q I r h
  obtain ⟨a, ns, rfl, hS, z, q⟩ := h
  obtain ⟨u, rfl, ru⟩ := vals1 r
  cases ru
  obtain ⟨its, rv, p, hz⟩ := I.list hS
  have hl : its.length = ns.length := by rw [← rv.length, List.length_map]
  refine sorted_ints (vs := its) p.isList (ints_of_vals rv) (by rw [hl]; exact z) fun out ns' a1 a2 a3 => ?_
  obtain ⟨c, hc⟩ := sortedAll_at s.heap its out
  have hn : H (s.heap.objs.size + 1) = none := I.hok.fresh (Nat.le_succ _)
  exact ⟨.ref (s.heap.objs.size + 1), _, I.laid (t' := s.toks) (o := .lst (ns'.map V.int)) (fun b o e => sortedAll_old e) (Nat.le_succ _) ⟨by rw [List.length_map, a2.length_eq]; exact Nat.le_trans (Nat.le_of_lt z) (by decide), out.toList, c, vals_of_ints a1, by rw [Array.toArray_toList]; exact hc⟩, rfl, q _ ns' a2 a3 hn⟩
end
end L3
namespace L3
open PySem PySem.Spec PyProof.Rows L2
def Itm (d : Addr) (o : Obj) : It :=
  ⟨fun i H => ∃ kvs kv, H d = some (.frz o (.dK kvs)) ∧ kvs[i]? = some kv, fun i H x H' => ∃ p k y, H p = none ∧ x = .ref p ∧ H' = upd H p (.tup [kV k, y]) ∧ ∀ kvs, H d = some (.frz o (.dK kvs)) → kvs[i]? = some (k, y), fun i H => ∃ kvs, H d = some (.frz o (.dK kvs)) ∧ kvs.length ≤ i⟩
theorem entry_itemiter : entryFor table "dict_itemiterator.__iter__" = some Builtin.«dict_keyiterator.__iter__» :=
  entryFor_alias (id' := "dict_keyiterator.__iter__") (by kernel_rfl) (by first | rfl | decide +kernel) (by decide +kernel) (by kernel_rfl)
theorem iter_itemiter {prog : Program} {w : World} {A : Around} {E : Value → Shared → Prop} {s : Shared} {it d : Addr} {i n ep : Nat} {ok ov : Value} {Q : Value → Shared → Prop} (hit : IsItemIter s.heap it d i n ep ok ov) (h : Q (.ref it) s) : wpAny (model prog w) A (pyIter (.ref it)) Q E s := by
  have hT : s.TypeIs (.ref it) "dict_itemiterator" := ⟨_, hit, rfl⟩
  refine wpAny_pyIter_slot hT F.slot_dict_itemiterator_iter (wpAny_call_entry F.slot_dict_itemiterator_iter hT entry_itemiter ?_ (F.args_dict_itemiterator_iter_1 _))
  show wpAny _ _ (ret (.ref it)) _ _ s
  exact wpAny_pure ⟨_, rfl, "dict_itemiterator", _, hT, F.slot_dict_itemiterator_next.lookup, h⟩
theorem turn_items {P : Program} {w : World} {K : PySem.W.Frag} {es0 : List Expr} {x1 : Nat} {tp : Pos} {d it : Addr} {o : Obj} {es : Array DictEntry} {ep : Nat} (ho : o.data = .dict es ep) :
    Turn P w K (.Tuple es0 x1 tp) (Itm d o) [it] it (fun i h => ∃ ok ov, IsItemIter h it d i es.size ep ok ov) where
  mem := by simp
  obj := by
    rintro i h ⟨ok, ov, he⟩ b hb
    have hb : b = it := by simpa using hb
    subst hb
    exact ⟨_, he, fun v z => by cases z⟩
  keep := by
    rintro i h h' ⟨ok, ov, he⟩ k
    exact ⟨ok, ov, k it (by simp) _ he⟩
  item := by
    intro X hP hw hK hc i pins s σ H E I hf st hg
    subst hP hw hK
    obtain ⟨kvs, kv, e, hx⟩ := hg
    obtain ⟨ok, ov, st⟩ := st
    obtain ⟨g1, z, lo, vs, r, o', es', ep', h1, h2, h3, h4, h5, h6⟩ := (show ObjOk X.prog X.w H s.heap d (.frz o (.dK kvs)) from I.hok d _ e)
    have eo : o' = o := by rw [h1] at g1; injection g1
    subst eo
    rw [h3] at ho
    injection ho with e1 e2
    subst e1; subst e2
    have hsz : es'.size = vs.length := by rw [← h5.length]; simp
    obtain ⟨q, hq, ⟨k1, rv⟩⟩ := paired_at r hx
    obtain ⟨f0, f1, f2, f3, f4, f5⟩ := hf it (by simp)
    rw [hsz] at st
    refine wpAny_pyNext_items_item (knd := mixKind X.prog X.w) (k := q.1) (v := q.2) st ⟨o', es', h1, h2, h3, h4, h5, h6⟩ hq fun key h' hk st' ht hz' hk' => ⟨_, rfl, ?_⟩
    refine wpAny_letOwnedTupleGo_items st' fun h2' st2 sb => ?_
    replace sb : Heap.SameBut it h' h2' := sb
    have hil : it < s.heap.objs.size := Heap.lt_size st
    have hp0 : H s.heap.objs.size = none := I.hok.fresh (Nat.le_refl _)
    have ht2 : h2'.get? s.heap.objs.size = some { cls := .type "tuple", data := .seq #[key, q.2] } := (sb.2 _ (Nat.ne_of_gt hil)).trans ht
    have rk : RelV (kV kv.1) key := by
      rw [k1]
      rcases keyIs_shape hk with ⟨n, t, h7, h8⟩ | ⟨n, t, h7, h8⟩
      · rw [h7, h8]; exact ⟨t, rfl⟩
      · rw [h7, h8]; exact ⟨t, rfl⟩
    have I1 : Inv X pins σ (upd H s.heap.objs.size (.tup [kV kv.1, kv.2])) { s with heap := s.heap.push { cls := .type "tuple", data := .seq #[key, q.2] } } :=
      I.laid (t' := s.toks) (fun b v q => Heap.get?_push_of_some _ q) (Nat.le_refl _) ⟨by show 2 ≤ sizeLine; decide, [key, q.2], .cons rk (.cons rv .nil), ⟨_, Heap.get?_push_size _ rfl, rfl, _, rfl⟩⟩
    have off : (upd H s.heap.objs.size (.tup [kV kv.1, kv.2])) it = none := by rw [upd_ne (Nat.ne_of_lt hil)]; exact f0
    have I2 : Inv X pins σ (upd H s.heap.objs.size (.tup [kV kv.1, kv.2])) { s with heap := h2' } := Inv.turned (s := { s with heap := s.heap.push { cls := .type "tuple", data := .seq #[key, q.2] } }) (t' := s.toks) I1 (fun b u n1 q' => by
      replace q' : (s.heap.push { cls := .type "tuple", data := .seq #[key, q.2] }).get? b = some u := q'
      rcases Heap.get?_push_cases q' with ⟨z, z'⟩ | q''
      · subst z; subst z'; exact ht2
      · exact (sb.2 b n1).trans (hk' b u n1 q'')) off f1 f3 f4 f5
    refine ⟨.ref s.heap.objs.size, _, I2, rfl, ⟨_, kv.1, kv.2, hp0, rfl, rfl, fun ws hw => by rw [frz_inj hw e]; exact hx⟩, ⟨_, _, by rw [hsz]; exact st2⟩, fun b hb => ?_⟩
    have hb : b = it := by simpa using hb
    subst hb
    exact off
  done := by
    intro X hP hw hK hc i pins s σ H E I hf st hg
    subst hP hw hK
    obtain ⟨kvs, e, hx⟩ := hg
    obtain ⟨ok, ov, st⟩ := st
    obtain ⟨g1, z, lo, vs, r, o', es', ep', h1, h2, h3, h4, h5, h6⟩ := (show ObjOk X.prog X.w H s.heap d (.frz o (.dK kvs)) from I.hok d _ e)
    have eo : o' = o := by rw [h1] at g1; injection g1
    subst eo
    rw [h3] at ho
    injection ho with e1 e2
    subst e1; subst e2
    have hsz : es'.size = vs.length := by rw [← h5.length]; simp
    have hvl : kvs.length = vs.length := r.length
    obtain ⟨f0, f1, f2, f3, f4, f5⟩ := hf it (by simp)
    rw [hsz] at st
    exact wpAny_pyNext_items_end (knd := mixKind X.prog X.w) (I.ok.hd hc) st ⟨o', es', h1, h2, h3, h4, h5, h6⟩ (List.getElem?_eq_none (by omega)) fun h' eb => ⟨rfl, I.turned (t' := s.toks) (fun b u hb q => eb b u hb q) f0 f1 f3 f4 f5⟩
  self := fun _ _ _ _ _ ⟨_, _, st⟩ h => iter_itemiter st h
section
variable {X : Cx}
def iItems (to : TE) : TI := fun σ H R => to σ H fun x H1 => ∃ d kvs, x = .ref d ∧ H1 d = some (.dK kvs) ∧ ∀ o, R (Itm d o) (upd H1 d (.frz o (.dK kvs)))
theorem pi_items {l : Expr} {to : TE} {apos cpos tp : Pos} {es0 : List Expr} {x1 : Nat} (ho : PE X l to) (hbase : attributeBase l "items" X.env (eval l X.env) = eval l X.env := by rfl) (hline : (apos.endLine == cpos.line) = true := by rfl) :
    PI X (.Tuple es0 x1 tp) (.Call (.Attribute l "items" apos) [] [] cpos) (iItems to) := by
  intro pins s σ H R I h
  refine wpAny_Call_method0_late hbase hline (thn (ho pins s σ H _ I h) fun v s1 ⟨x, H1, I1, r1, q1⟩ => ?_)
  obtain ⟨d, kvs, e, hd, q⟩ := q1
  subst e
  cases r1
  obtain ⟨o, h0, I2⟩ := hold_k I1 hd
  obtain ⟨z, lo, vs, r, o', es, ep, h1, h2, h3, h4, h5, h6⟩ := (show ObjOk X.prog X.w H1 s1.heap d (.dK kvs) from I1.hok d _ hd)
  have eo : o' = o := by rw [h1] at h0; injection h0
  subst eo
  have hsz : es.size = vs.length := by rw [← h5.length]; simp
  have hD : s1.heap.DictOf (mixKind X.prog X.w) d vs := ⟨o', es, ep, h1, h2, h3, h4, h5, h6⟩
  refine ⟨"dict", "dict.items", PySem.F.plainAttrs_dict, PySem.F.slot_dict_items, PySem.F.type_dict_items, hD.typeIs, fun a ea => ?_, ?_⟩
  · cases ea; exact ⟨o', h1, h2.2.1⟩
  refine Calls.callWith_builtin rfl (PySem.evalArgs_none ?_)
  refine call_meetsIn PySem.F.slot_dict_items hD.typeIs PySem.F.entry_dict_items (PySem.F.args_dict_items_1 _) (meets_dict_items (mixKind X.prog X.w) d lo) ⟨⟨vs, hD⟩, ?_⟩
  have hD1 : (s1.heap.push { cls := .type "dict_items", data := .fields #[.ref d] }).DictAt (mixKind X.prog X.w) d vs ep := ⟨o', es, Heap.get?_push_of_some _ h1, h2, h3, h4, h5, h6⟩
  refine wpAny_pyIter_items (s := { s1 with heap := s1.heap.push { cls := .type "dict_items", data := .fields #[.ref d] } }) (v := s1.heap.objs.size) (d := d) ⟨_, Heap.get?_push_size _ rfl, rfl, rfl⟩ hD1 ?_
  have I3 := I2.kept (t' := s1.toks) (h' := s1.heap.push { cls := .type "dict_items", data := .fields #[.ref d] }) fun b u e => Heap.get?_push_of_some _ e
  refine ⟨_, [_], _, _, _, rfl, I3.kept (t' := s1.toks) fun b u e => Heap.get?_push_of_some _ e, turn_items h3, ⟨_, _, by rw [hsz]; exact Heap.get?_push_size _ rfl⟩, fun b hb => ?_, q o'⟩
  rw [List.mem_singleton.mp hb]
  exact I3.fpOk (Nat.le_refl _) (I3.hok.fresh (Nat.le_refl _))
end
theorem for_items {d : Addr} {o : Obj} {kvs : List (Key × V)} {g : TG} {tb : TS} {D : Ends} {σ : L2.St} {H : Hp} (Pv : Nat → L2.St → Hp → Prop) (h0 : Pv 0 σ H) (hl : ∀ i σ H, i ≤ kvs.length → Pv i σ H → H d = some (.frz o (.dK kvs)))
    (hs : ∀ i k y p σ H, kvs[i]? = some (k, y) → Pv i σ H → H p = none → g (.ref p) σ (upd H p (.tup [kV k, y])) fun σ2 H2 => tb { D with nx := Pv (i + 1), ct := Pv (i + 1), bk := D.nx } σ2 H2) (hd : ∀ σ H, Pv kvs.length σ H → D.nx σ H) :
    ∃ W : Nat → Nat → L2.St → Hp → Prop, (∃ m, W 0 m σ H) ∧ ∀ i m σ H, W i m σ H →
      ((Itm d o).stop i H ∧ D.nx σ H) ∨ ((Itm d o).go i H ∧ ∃ N : L2.St → Hp → Prop, (∀ σ' H', N σ' H' → ∃ m', m' < m ∧ W (i + 1) m' σ' H') ∧ ∀ x H', (Itm d o).yld i H x H' → g x σ H' fun σ2 H2 => tb { D with nx := N, ct := N, bk := D.nx } σ2 H2) := by
  refine ⟨fun i m σ H => m = kvs.length - i ∧ i ≤ kvs.length ∧ Pv i σ H, ⟨kvs.length, by simp, Nat.zero_le _, h0⟩, ?_⟩
  rintro i m σ H ⟨rfl, hi, p⟩
  have q := hl i σ H hi p
  by_cases hlt : i < kvs.length
  · refine .inr ⟨⟨kvs, kvs[i], q, by simp [hlt]⟩, Pv (i + 1), fun σ' H' p' => ⟨kvs.length - (i + 1), by omega, rfl, hlt, p'⟩, fun x H' y => ?_⟩
    obtain ⟨b, k, z, hb, rfl, rfl, y⟩ := y
    exact hs i k z b σ H (y kvs q) p hb
  · have e : i = kvs.length := by omega
    subst e
    exact .inl ⟨⟨kvs, q, Nat.le_refl _⟩, hd σ H p⟩
end L3
namespace L3
open PySem PySem.Spec PyProof.Rows L2 PySem.W
section
variable {prog : Program} {w : World} {A : Around} {E : Value → Shared → Prop} {s : Shared} {d it : Addr} {es : Array DictEntry} {p i : Nat}
theorem rp_view (lo : (d == sysModules) = false) : MeetsIn prog w (Builtin.«dict.items» ⟨[.ref d], []⟩) (fun _ R s => (∃ es p, RawD d es p s.heap) ∧ R (.ok (.ret (.ref s.heap.objs.size))) { s with heap := s.heap.push { cls := .type "dict_items", data := .fields #[.ref d] } }) :=
  .of_wp fun A R s ⟨⟨es, p, r⟩, q⟩ => by
    unfold Builtin.«dict.items» Builtin.Dict.noArgs
    refine wpAny_bind (wpAny_bind (wpAny_notOrdered_dict r.ty ?_))
    show wpAny _ _ (Pure.pure d) _ _ s
    refine wpAny_pure ?_
    show wpAny _ _ (Builtin.Dict.showsAll d >>= fun _ => _) _ _ s
    unfold Builtin.Dict.showsAll
    rw [lo]
    exact wpAny_bind (wpAny_pure (wpAny_bind (wpAny_newObj_type (wpAny_pure ⟨_, rfl, q⟩))))
theorem rp_iter {v : Addr} {Q : Value → Shared → Prop} (hv : s.heap.IsItemsView v d) (r : RawD d es p s.heap)
    (q : Q (.ref s.heap.objs.size) { s with heap := s.heap.push { cls := .type "dict_itemiterator", data := .fields #[.none, .bool false, .ref d, .int 0 0, .int es.size 0, .int p 0, .none, .none] } }) : wpAny (model prog w) A (pyIter (.ref v)) Q E s := by
  obtain ⟨a, ea, ca, da⟩ := id hv
  obtain ⟨b, eb, xb, db⟩ := id r
  refine wpAny_pyIter_slot hv.typeIs PySem.F.slot_dict_items_iter (wpAny_call_entry PySem.F.slot_dict_items_iter hv.typeIs PySem.F.entry_dict_items_iter ?_ (PySem.F.args_dict_items_iter_1 _))
  unfold Builtin.«dict_items.__iter__» Builtin.Dict_items.dictOf Builtin.Dict_items.newIterator
  refine wpAny_bind (wpAny_pure (wpAny_bind (wpAny_bind (wpAny_field ea da (x := .ref d) rfl (wpAny_pure ?_)))))
  refine wpAny_bind (wpAny_bind (wpAny_dictEntries eb db (wpAny_bind (wpAny_dictEpoch eb db ?_))))
  have own : Builtin.Dict_items.ownsTuple "dict_itemiterator" = true := by decide
  simp only [own, if_true]
  refine wpAny_newObj_type (wpAny_pure ⟨_, rfl, _, _, ⟨_, Heap.get?_push_size _ rfl, rfl⟩, PySem.F.slot_dict_itemiterator_next.lookup, ?_⟩) (by simp only [sizeOk, Builtin.Dict_items.ownedTupleFields, List.size_toArray, List.length_append, List.length_cons, List.length_nil, sizeLine_eq]; omega)
  simpa [rawInt, Builtin.Dict_items.ownedTupleFields] using q
theorem rp_item {Q : Option Value → Shared → Prop} {e : DictEntry} {ok ov : Value} (st : IsItemIter s.heap it d i es.size p ok ov) (r : RawD d es p s.heap) (hx : es[i]? = some e)
    (q : ∀ h', IsItemIterOut h' it d (i + 1) es.size p e.key e.val s.heap.objs.size → h'.get? s.heap.objs.size = some { cls := .type "tuple", data := .seq #[e.key, e.val] } →
      (∀ b o, b ≠ it → s.heap.get? b = some o → h'.get? b = some o) → Q (some (.ref s.heap.objs.size)) { s with heap := h' }) : wpAny (model prog w) A (pyNext (.ref it)) Q E s := by
  obtain ⟨hp, g, dr, tk, os⟩ := s
  obtain ⟨c, ec, xc, dc⟩ := id r
  have ty : Shared.TypeIs ⟨hp, g, dr, tk, os⟩ (.ref it) "dict_itemiterator" := ⟨_, st, rfl⟩
  unfold pyNext
  refine wpAny_bind (wpAny_attempt (wpAny_callSpecial?_slot (name := Str.ofString "__next__") ty PySem.F.slot_dict_itemiterator_next (wpAny_call_entry PySem.F.slot_dict_itemiterator_next ty PySem.F.entry_dict_itemiterator_next ?_ (PySem.F.args_dict_itemiterator_next_1 _))))
  refine wpAny_bind (wpAny_pure (wpAny_bind (wpAny_bind ?_)))
  refine wpAny_bind (wpAny_typeNameOfWhole_itemiter ty (wpAny_pure (wpAny_bind (wpAny_fieldsOf st rfl ?_))))
  have own : Builtin.Dict_items.ownsTuple "dict_itemiterator" = true := by decide
  simp only [own, if_true]
  show wpAny _ _ (if (Value.ref d == Value.none) = true then _ else _) _ _ _
  rw [if_neg (by intro z; cases z)]
  refine wpAny_bind (wpAny_pure (wpAny_bind (wpAny_dictEntries ec dc ?_)))
  rw [if_neg (by simp)]
  refine wpAny_bind (wpAny_pure (wpAny_bind (wpAny_dictEpoch ec dc ?_)))
  rw [if_neg (by simp)]
  refine wpAny_pure ?_
  simp only [show ¬ ((i : Int) < 0) by omega, if_false, Int.toNat_natCast, hx]
  refine wpAny_bind (wpAny_bind (wpAny_typeNameOfWhole_itemiter ty (wpAny_pure (wpAny_bind (wpAny_isOneOf_itemiter ty ?_)))))
  show wpAny _ _ (setField (.ref it) 3 (rawInt (i + 1)) >>= _) _ _ _
  refine wpAny_bind (wpAny_setField_rec st (by simp) fun k1 f1 u1 => ?_)
  replace u1 : Heap.SameBut it hp k1 := u1
  replace f1 : IsItemIter k1 it d (i + 1) es.size p ok ov := by
    have z : ((i + 1 : Nat) : Int) = (i : Int) + 1 := by omega
    unfold IsItemIter; rw [z]; simpa [rawInt] using f1
  have ty1 : Shared.TypeIs ⟨k1, g, dr, tk, os⟩ (.ref it) "dict_itemiterator" := ⟨_, f1, rfl⟩
  refine wpAny_bind (wpAny_holding (wpAny_bind (wpAny_isOneOf_itemiter ty1 (wpAny_bind (wpAny_isOneOf_itemiter ty1 ?_)))))
  show wpAny _ _ (Builtin.Dict_items.pairFromOwner (.ref it) 6 e.key e.val) _ _ _
  unfold Builtin.Dict_items.pairFromOwner Builtin.Dict_items.ownedTupleIsFree
  refine wpAny_bind (wpAny_newTuple ?_)
  have sz : k1.objs.size = hp.objs.size := u1.1
  have lt : it < hp.objs.size := Heap.lt_size st
  obtain ⟨k2, ek⟩ : ∃ k2, k2 = k1.push { cls := .type "tuple", data := .seq #[e.key, e.val] } := ⟨_, rfl⟩
  have f2 : IsItemIter k2 it d (i + 1) es.size p ok ov := ek ▸ Heap.get?_push_of_some _ f1
  have t2 : k2.get? hp.objs.size = some { cls := .type "tuple", data := .seq #[e.key, e.val] } := by rw [ek, ← sz]; exact Heap.get?_push_size _ rfl
  have g2 : ∀ b o, b ≠ it → hp.get? b = some o → k2.get? b = some o := fun b o n z => by rw [ek]; exact Heap.get?_push_of_some _ (u1.extBut b o n z)
  rw [← ek, sz]
  show wpAny _ _ _ _ _ (Shared.mk k2 g dr tk os)
  clear ek f1 u1 ty1 sz k1
  refine wpAny_bind (wpAny_bind (wpAny_field f2 rfl (x := .none) rfl (wpAny_pure ?_)))
  simp only [if_true]
  refine wpAny_bind (wpAny_field f2 rfl (x := ok) rfl (wpAny_bind (wpAny_field f2 rfl (x := ov) rfl ?_)))
  refine wpAny_bind (wpAny_setField_rec f2 (by simp) fun k3 f3 u3 => ?_)
  replace u3 : Heap.SameBut it k2 k3 := u3
  replace f3 : IsItemIter k3 it d (i + 1) es.size p e.key ov := f3
  refine wpAny_bind (wpAny_setField_rec f3 (by simp) fun k4 f4 u4 => ?_)
  replace u4 : Heap.SameBut it k3 k4 := u4
  replace f4 : IsItemIter k4 it d (i + 1) es.size p e.key e.val := f4
  refine wpAny_bind (wpAny_setField_rec f4 (by simp) fun k5 f5 u5 => ?_)
  replace u5 : Heap.SameBut it k4 k5 := u5
  replace f5 : IsItemIterOut k5 it d (i + 1) es.size p e.key e.val hp.objs.size := f5
  refine wpAny_bind (wpAny_setField_rec f5 (by simp) fun k6 f6 u6 => ?_)
  replace u6 : Heap.SameBut it k5 k6 := u6
  replace f6 : IsItemIterOut k6 it d (i + 1) es.size p e.key e.val hp.objs.size := f6
  have up : ∀ b o, b ≠ it → k2.get? b = some o → k6.get? b = some o := fun b o n z => u6.extBut b o n (u5.extBut b o n (u4.extBut b o n (u3.extBut b o n z)))
  exact wpAny_bind (wpAny_letGo (wpAny_pure (wpAny_pure ⟨_, rfl, wpAny_pure (q k6 f6 (up _ _ (Nat.ne_of_gt lt) t2) fun b o n z => up b o n (g2 b o n z))⟩)))
theorem rp_end {Q : Option Value → Shared → Prop} {ok ov : Value} (hh : A.handled = none) (st : IsItemIter s.heap it d i es.size p ok ov) (r : RawD d es p s.heap) (hx : es[i]? = none)
    (q : ∀ h', Heap.ExtBut it s.heap h' → Q none { s with heap := h' }) : wpAny (model prog w) A (pyNext (.ref it)) Q E s := by
  obtain ⟨c, ec, xc, dc⟩ := id r
  have ty : s.TypeIs (.ref it) "dict_itemiterator" := ⟨_, st, rfl⟩
  unfold pyNext
  refine wpAny_bind (wpAny_attempt (wpAny_callSpecial?_slot (name := Str.ofString "__next__") ty PySem.F.slot_dict_itemiterator_next (wpAny_call_entry PySem.F.slot_dict_itemiterator_next ty PySem.F.entry_dict_itemiterator_next ?_ (PySem.F.args_dict_itemiterator_next_1 _))))
  refine wpAny_bind (wpAny_pure (wpAny_bind (wpAny_bind ?_)))
  refine wpAny_bind (wpAny_typeNameOfWhole_itemiter ty (wpAny_pure (wpAny_bind (wpAny_fieldsOf st rfl ?_))))
  have own : Builtin.Dict_items.ownsTuple "dict_itemiterator" = true := by decide
  simp only [own, if_true]
  show wpAny _ _ (if (Value.ref d == Value.none) = true then _ else _) _ _ _
  rw [if_neg (by intro z; cases z)]
  refine wpAny_bind (wpAny_pure (wpAny_bind (wpAny_dictEntries ec dc ?_)))
  rw [if_neg (by simp)]
  refine wpAny_bind (wpAny_pure (wpAny_bind (wpAny_dictEpoch ec dc ?_)))
  rw [if_neg (by simp)]
  refine wpAny_pure ?_
  simp only [show ¬ ((i : Int) < 0) by omega, if_false, Int.toNat_natCast, hx]
  refine wpAny_bind (wpAny_bind (wpAny_typeNameOfWhole_itemiter ty (wpAny_pure ?_)))
  show wpAny _ _ (setField (.ref it) 2 Value.none >>= _) _ _ _
  refine wpAny_bind (wpAny_setField st rfl (by simp) ?_)
  show wpAny _ _ (newExc (.type "StopIteration") ([] : List Value) >>= _) _ _ _
  refine wpAny_bind ?_
  simp only [newExc, newTuple]
  refine wpAny_bind (wpAny_newObj_type (wpAny_bind (m := firstArgMember _ _) (wpAny_of_eq (a := .none) (by first | rfl | (simp only [firstArgMember]; rfl)) (wpAny_newObj_type ?_ (by size_fits)))) (by size_fits))
  simp only [raiseNew]
  refine wpAny_bind (wpAny_handled ?_)
  rw [show A.in1.handled = none from hh]
  refine wpAny_bind (wpAny_pure (wpAny_throw ?_))
  refine wpAny_bind (wpAny_isInstance (b := true) (T := "StopIteration") ⟨_, Heap.get?_push_size _ rfl, rfl⟩ isSubtype_stop ?_)
  exact wpAny_pure (q _ (((Heap.SameBut.update ..).extBut.push _).push _))
end
section
variable {X : Cx} {pins : List (Addr × Obj)} {σ : List (Option V)} {H : Hp} {s : Shared}
theorem hold_t {a : Addr} {kvs : List (List Key × V)} (I : Inv X pins σ H s) (e : H a = some (.dT kvs)) : ∃ o, s.heap.get? a = some o ∧ Inv X pins σ (upd H a (.frz o (.dT kvs))) s := by
  have x := (show ObjOk X.prog X.w H s.heap a (.dT kvs) from I.hok a _ e)
  obtain ⟨z, lo, xs, r, o, es, p, h1, h2⟩ := id x
  refine ⟨o, h1, ?_⟩
  have ne : ∀ c ys, H c = some (.tup ys) → c ≠ a := fun c ys ec hz => by rw [hz, e] at ec; cases ec
  exact I.write (x := a) (e := a) (h' := s.heap) (t' := s.toks) (o := .frz o (.dT kvs)) (by rw [e]; trivial) (.inl rfl) (fun b u _ q => q) ⟨o, h1⟩ ⟨h1, z, lo, xs, paired_mono (fun _ _ q => ⟨q.1, (upd_ne (ne _ _ q.2.1)).trans q.2.1, q.2.2⟩) r, o, es, p, h1, h2⟩
end
def Itt (d : Addr) (o : Obj) : It :=
  ⟨fun i H => ∃ kvs kv, H d = some (.frz o (.dT kvs)) ∧ kvs[i]? = some kv, fun i H x H' => ∃ p b k y, H p = none ∧ x = .ref p ∧ H b = some (.tup (k.map kV)) ∧ H' = upd H p (.tup [.ref b, y]) ∧ ∀ kvs, H d = some (.frz o (.dT kvs)) → kvs[i]? = some (k, y), fun i H => ∃ kvs, H d = some (.frz o (.dT kvs)) ∧ kvs.length ≤ i⟩
theorem frzT_inj {H : Hp} {d : Addr} {o : Obj} {a b : List (List Key × V)} (h1 : H d = some (.frz o (.dT a))) (h2 : H d = some (.frz o (.dT b))) : a = b := by
  rw [h1] at h2; injection h2 with h2; injection h2 with _ h2; injection h2
theorem turn_pairs {P : Program} {w : World} {K : PySem.W.Frag} {es0 : List Expr} {x1 : Nat} {tp : Pos} {d it : Addr} {o : Obj} {es : Array DictEntry} {ep : Nat} (ho : o.data = .dict es ep) :
    Turn P w K (.Tuple es0 x1 tp) (Itt d o) [it] it (fun i h => ∃ ok ov, IsItemIter h it d i es.size ep ok ov) where
  mem := by simp
  obj := by
    rintro i h ⟨ok, ov, he⟩ b hb
    have hb : b = it := by simpa using hb
    subst hb
    exact ⟨_, he, fun v z => by cases z⟩
  keep := by
    rintro i h h' ⟨ok, ov, he⟩ k
    exact ⟨ok, ov, k it (by simp) _ he⟩
  item := by
    intro X hP hw hK hc i pins s σ H E I hf st hg
    subst hP hw hK
    obtain ⟨kvs, kv, e, hx⟩ := hg
    obtain ⟨ok, ov, st⟩ := st
    obtain ⟨g1, z, lo, xs, r, o', es', ep', h1, h2, h3, h4, h5⟩ := (show ObjOk X.prog X.w H s.heap d (.frz o (.dT kvs)) from I.hok d _ e)
    have eo : o' = o := by rw [h1] at g1; injection g1
    subst eo
    rw [h3] at ho
    injection ho with e1 e2
    subst e1; subst e2
    obtain ⟨q, hq, k1, k2, rv⟩ := paired_at r hx
    obtain ⟨f0, f1, f2, f3, f4, f5⟩ := hf it (by simp)
    have hen : es'[i]? = some (entryOfKey (tupleKind (mixKind X.prog X.w)) q) := by rw [← Array.getElem?_toList, h4, List.getElem?_map, hq]; rfl
    refine rp_item st ⟨o', h1, h2, h3⟩ hen fun h' st' ht hk' => ⟨_, rfl, ?_⟩
    refine wpAny_letOwnedTupleGo_items st' fun h2' st2 sb => ?_
    replace sb : Heap.SameBut it h' h2' := sb
    have hil : it < s.heap.objs.size := Heap.lt_size st
    have hp0 : H s.heap.objs.size = none := I.hok.fresh (Nat.le_refl _)
    have ht2 : h2'.get? s.heap.objs.size = some { cls := .type "tuple", data := .seq #[.ref q.2.1, q.2.2] } := (sb.2 _ (Nat.ne_of_gt hil)).trans ht
    have I1 : Inv X pins σ (upd H s.heap.objs.size (.tup [.ref q.2.1, kv.2])) { s with heap := s.heap.push { cls := .type "tuple", data := .seq #[.ref q.2.1, q.2.2] } } :=
      I.laid (t' := s.toks) (fun b v q => Heap.get?_push_of_some _ q) (Nat.le_refl _) ⟨by show 2 ≤ sizeLine; decide, [.ref q.2.1, q.2.2], .cons rfl (.cons rv .nil), ⟨_, Heap.get?_push_size _ rfl, rfl, _, rfl⟩⟩
    have off : (upd H s.heap.objs.size (.tup [.ref q.2.1, kv.2])) it = none := by rw [upd_ne (Nat.ne_of_lt hil)]; exact f0
    have I2 : Inv X pins σ (upd H s.heap.objs.size (.tup [.ref q.2.1, kv.2])) { s with heap := h2' } := Inv.turned (s := { s with heap := s.heap.push { cls := .type "tuple", data := .seq #[.ref q.2.1, q.2.2] } }) (t' := s.toks) I1 (fun b u n1 q' => by
      replace q' : (s.heap.push { cls := .type "tuple", data := .seq #[.ref q.2.1, q.2.2] }).get? b = some u := q'
      rcases Heap.get?_push_cases q' with ⟨z, z'⟩ | q''
      · subst z; subst z'; exact ht2
      · exact (sb.2 b n1).trans (hk' b u n1 q'')) off f1 f3 f4 f5
    refine ⟨.ref s.heap.objs.size, _, I2, rfl, ⟨_, q.2.1, kv.1, kv.2, hp0, rfl, k2, rfl, fun ws hw => by rw [frzT_inj hw e]; exact hx⟩, ⟨_, _, st2⟩, fun b hb => ?_⟩
    have hb : b = it := by simpa using hb
    subst hb
    exact off
  done := by
    intro X hP hw hK hc i pins s σ H E I hf st hg
    subst hP hw hK
    obtain ⟨kvs, e, hx⟩ := hg
    obtain ⟨ok, ov, st⟩ := st
    obtain ⟨g1, z, lo, xs, r, o', es', ep', h1, h2, h3, h4, h5⟩ := (show ObjOk X.prog X.w H s.heap d (.frz o (.dT kvs)) from I.hok d _ e)
    have eo : o' = o := by rw [h1] at g1; injection g1
    subst eo
    rw [h3] at ho
    injection ho with e1 e2
    subst e1; subst e2
    have hsz : es'.size = kvs.length := by rw [Paired.length r, ← Array.length_toList, h4, List.length_map]
    obtain ⟨f0, f1, f2, f3, f4, f5⟩ := hf it (by simp)
    exact rp_end (I.ok.hd hc) st ⟨o', h1, h2, h3⟩ (Array.getElem?_eq_none (by omega)) fun h' eb => ⟨rfl, I.turned (t' := s.toks) (fun b u hb q => eb b u hb q) f0 f1 f3 f4 f5⟩
  self := fun _ _ _ _ _ ⟨_, _, st⟩ h => iter_itemiter st h
section
variable {X : Cx}
def iPairs (to : TE) : TI := fun σ H R => to σ H fun x H1 => ∃ d kvs, x = .ref d ∧ H1 d = some (.dT kvs) ∧ ∀ o, R (Itt d o) (upd H1 d (.frz o (.dT kvs)))
theorem pi_pairs {l : Expr} {to : TE} {apos cpos tp : Pos} {es0 : List Expr} {x1 : Nat} (ho : PE X l to) (hbase : attributeBase l "items" X.env (eval l X.env) = eval l X.env := by rfl) (hline : (apos.endLine == cpos.line) = true := by rfl) :
    PI X (.Tuple es0 x1 tp) (.Call (.Attribute l "items" apos) [] [] cpos) (iPairs to) := by
  intro pins s σ H R I h
  refine wpAny_Call_method0_late hbase hline (thn (ho pins s σ H _ I h) fun v s1 ⟨x, H1, I1, r1, q1⟩ => ?_)
  obtain ⟨d, kvs, e, hd, q⟩ := q1
  subst e
  cases r1
  obtain ⟨o, h0, I2⟩ := hold_t I1 hd
  obtain ⟨z, lo, xs, r, o', es, ep, h1, h2, h3, h4, h5⟩ := (show ObjOk X.prog X.w H1 s1.heap d (.dT kvs) from I1.hok d _ hd)
  have eo : o' = o := by rw [h1] at h0; injection h0
  subst eo
  have rr : RawD d es ep s1.heap := ⟨o', h1, h2, h3⟩
  refine ⟨"dict", "dict.items", PySem.F.plainAttrs_dict, PySem.F.slot_dict_items, PySem.F.type_dict_items, rr.ty, fun a ea => ?_, ?_⟩
  · cases ea; exact ⟨o', h1, h2.2.1⟩
  refine Calls.callWith_builtin rfl (PySem.evalArgs_none ?_)
  refine call_meetsIn PySem.F.slot_dict_items rr.ty PySem.F.entry_dict_items (PySem.F.args_dict_items_1 _) (rp_view lo) ⟨⟨es, ep, rr⟩, ?_⟩
  have r1 : RawD d es ep (s1.heap.push { cls := .type "dict_items", data := .fields #[.ref d] }) := rr.at fun o e => Heap.get?_push_of_some _ e
  refine rp_iter (s := { s1 with heap := s1.heap.push { cls := .type "dict_items", data := .fields #[.ref d] } }) (v := s1.heap.objs.size) (d := d) ⟨_, Heap.get?_push_size _ rfl, rfl, rfl⟩ r1 ?_
  have I3 := I2.kept (t' := s1.toks) (h' := s1.heap.push { cls := .type "dict_items", data := .fields #[.ref d] }) fun b u e => Heap.get?_push_of_some _ e
  refine ⟨_, [_], _, _, _, rfl, I3.kept (t' := s1.toks) fun b u e => Heap.get?_push_of_some _ e, turn_pairs h3, ⟨_, _, Heap.get?_push_size _ rfl⟩, fun b hb => ?_, q o'⟩
  rw [List.mem_singleton.mp hb]
  exact I3.fpOk (Nat.le_refl _) (I3.hok.fresh (Nat.le_refl _))
end
theorem comp_pairs {d : Addr} {o : Obj} {kvs : List (List Key × V)} {g : TG} {tf : TT} {te : TE} {τ : L2.St} {H : Hp} {Q : VK} (Pv : Nat → List V → L2.St → Hp → Prop) (h0 : Pv 0 [] τ H) (hl : ∀ i ys τ H, Pv i ys τ H → H d = some (.frz o (.dT kvs)))
    (hs : ∀ i k y p b ys τ H, kvs[i]? = some (k, y) → Pv i ys τ H → H p = none → H b = some (.tup (k.map kV)) → g (.ref p) τ (upd H p (.tup [.ref b, y])) fun τ2 H2 => tf τ2 H2 fun z H3 => if z = true then te τ2 H3 fun y H4 => ys.length < sizeLine ∧ Pv (i + 1) (ys ++ [y]) τ2 H4 else Pv (i + 1) ys τ2 H3)
    (hd : ∀ ys τ H, Pv kvs.length ys τ H → ∀ p, H p = none → Q (.ref p) (upd H p (.lst ys))) : CompGo (Itt d o) g tf te Q τ H := by
  refine ⟨fun i m ys τ H => m = kvs.length - i ∧ i ≤ kvs.length ∧ Pv i ys τ H, ⟨kvs.length, by simp, Nat.zero_le _, h0⟩, ?_⟩
  rintro i m ys τ H ⟨rfl, hi, p⟩
  have q := hl i ys τ H p
  by_cases hlt : i < kvs.length
  · refine .inr ⟨⟨kvs, kvs[i], q, by simp [hlt]⟩, Pv (i + 1), fun ys' τ' H' p' => ⟨kvs.length - (i + 1), by omega, rfl, hlt, p'⟩, fun x H' y => ?_⟩
    obtain ⟨p0, b, k, z, hp, rfl, hb, rfl, y⟩ := y
    exact hs i k z p0 b ys τ H (y kvs q) p hp hb
  · have e : i = kvs.length := by omega
    subst e
    exact .inl ⟨⟨kvs, q, Nat.le_refl _⟩, hd ys τ H p⟩
theorem comp_items {d : Addr} {o : Obj} {kvs : List (Key × V)} {g : TG} {tf : TT} {te : TE} {τ : L2.St} {H : Hp} {Q : VK} (Pv : Nat → List V → L2.St → Hp → Prop) (h0 : Pv 0 [] τ H) (hl : ∀ i ys τ H, Pv i ys τ H → H d = some (.frz o (.dK kvs)))
    (hs : ∀ i k y p ys τ H, kvs[i]? = some (k, y) → Pv i ys τ H → H p = none → g (.ref p) τ (upd H p (.tup [kV k, y])) fun τ2 H2 => tf τ2 H2 fun z H3 => if z = true then te τ2 H3 fun y H4 => ys.length < sizeLine ∧ Pv (i + 1) (ys ++ [y]) τ2 H4 else Pv (i + 1) ys τ2 H3)
    (hd : ∀ ys τ H, Pv kvs.length ys τ H → ∀ p, H p = none → Q (.ref p) (upd H p (.lst ys))) : CompGo (Itm d o) g tf te Q τ H := by
  refine ⟨fun i m ys τ H => m = kvs.length - i ∧ i ≤ kvs.length ∧ Pv i ys τ H, ⟨kvs.length, by simp, Nat.zero_le _, h0⟩, ?_⟩
  rintro i m ys τ H ⟨rfl, hi, p⟩
  have q := hl i ys τ H p
  by_cases hlt : i < kvs.length
  · refine .inr ⟨⟨kvs, kvs[i], q, by simp [hlt]⟩, Pv (i + 1), fun ys' τ' H' p' => ⟨kvs.length - (i + 1), by omega, rfl, hlt, p'⟩, fun x H' y => ?_⟩
    obtain ⟨p0, k, z, hp, rfl, rfl, y⟩ := y
    exact hs i k z p0 ys τ H (y kvs q) p hp
  · have e : i = kvs.length := by omega
    subst e
    exact .inl ⟨⟨kvs, q, Nat.le_refl _⟩, hd ys τ H p⟩
end L3
namespace L3
open PySem PySem.Spec PyProof.Rows L2 PySem.W
section
variable {X : Cx}
end
end L3
namespace L3
open PySem PySem.Spec PyProof.Rows L2 PySem.W
section
variable {prog : Program} {w : World} {A : Around} {E : Value → Shared → Prop} {s : Shared}
end
section
variable {prog : Program} {w : World} {κ : Type} [DecidableEq κ] {knd : KeyKind prog w κ} {A : Around} {E : Value → Shared → Prop} {s : Shared}
end
section
variable {X : Cx}
end
end L3
namespace L3
open PySem PySem.Spec PyProof.Rows L2
def tyN : D → String
  | .non => "NoneType"
  | .bl _ => "bool"
  | .int _ => "int"
  | .str _ => "str"
  | .tup _ => "tuple"
  | .lst _ => "list"
def isT (d : D) (T : String) : Bool := match d with
  | .non => T == "NoneType"
  | .bl _ => T == "bool" || T == "int"
  | .int _ => T == "int"
  | .str _ => T == "str"
  | .tup _ => T == "tuple"
  | .lst _ => T == "list"
theorem kit_isT {K : PySem.W.Frag} (d : D) {T : String} (h : T = "tuple" ∨ T = "int" ∨ T = "bool" ∨ T = "str" ∨ T = "list") : PySem.W.kitOne K (.type (tyN d)) (.type T) = some (isT d T) := by
  rcases h with rfl | rfl | rfl | rfl | rfl <;> cases d <;> rfl
section
variable {X : Cx}
theorem call_isinstD : CallR X (.builtin "isinstance") (fun xs H Q => ∃ x d T, xs = [x, .ty T] ∧ Rep X.K H d x ∧ (T = "tuple" ∨ T = "int" ∨ T = "bool" ∨ T = "str" ∨ T = "list") ∧ Q (.bl (isT d T)) H) := by
  intro pins s σ H xs us Q I r h
  obtain ⟨x, d, T, rfl, rep, hT, q⟩ := h
  obtain ⟨u, w', rfl, rx, rt⟩ := vals2 r
  cases rt
  have k := kit_isT (K := X.K) d hT
  have fin : ∀ tk, EP X pins σ Q (.bool (isT d T)) { s with toks := tk } := fun tk => ⟨.bl (isT d T), H, I.tok _, rfl, q⟩
  cases d with
  | non => unfold Rep at rep; subst rep; exact isinst_ok I rx .non k fin
  | bl b => unfold Rep at rep; subst rep; exact isinst_ok I rx (.bl b) k fin
  | int i => unfold Rep at rep; subst rep; exact isinst_ok I rx (.int i) k fin
  | str y => unfold Rep at rep; subst rep; exact isinst_ok I rx (.str y) k fin
  | tup ds =>
    unfold Rep at rep
    obtain ⟨a, ys, rfl, hq, _⟩ := rep
    cases (show u = Value.ref a from rx)
    obtain ⟨its, _, p, _⟩ := I.tuple hq
    obtain ⟨o, h1, h2, _⟩ := p
    exact PySem.W.kia_one PySem.W.kitx_tuple I.kIn ⟨o, h1, h2⟩ k (fun z => nomatch z) fin
  | lst ds =>
    unfold Rep at rep
    obtain ⟨a, ys, rfl, hq, _⟩ := rep
    cases (show u = Value.ref a from rx)
    obtain ⟨its, _, p, _⟩ := I.list hq
    obtain ⟨o, h1, h2, _⟩ := p.isList
    exact PySem.W.kia_one PySem.W.kitx_list I.kIn ⟨o, h1, h2⟩ k (fun z => nomatch z) fin
end
end L3
namespace L3
open PySem PySem.Spec PyProof.Rows L2
section
variable {X : Cx}
end
end L3
namespace L3
open PySem
def occStep (s sub : Str) (hi i : Nat) (st : Array Nat × Nat) : Array Nat × Nat := if (decide (st.1.size < 1) && decide (st.2 ≤ i) && decide (i + sub.length ≤ hi) && Builtin.Str.subAt s sub i) = true then (st.1.push i, i + sub.length) else (st.1, st.2)
theorem occ_run (s sub : Str) (hi : Nat) : ∀ (l : List Nat) (st : Array Nat × Nat), (forIn (m := Id) l st fun i st => if (decide (st.1.size < 1) && decide (st.2 ≤ i) && decide (i + sub.length ≤ hi) && Builtin.Str.subAt s sub i) = true then pure (ForInStep.yield (st.1.push i, i + sub.length)) else pure (ForInStep.yield (st.1, st.2))) = (pure (l.foldl (fun st i => occStep s sub hi i st) st) : Id _)
  | [], st => rfl
  | i :: l, st => by
    rw [List.forIn_cons, List.foldl_cons]
    unfold occStep
    split
    · exact occ_run s sub hi l _
    · exact occ_run s sub hi l _
theorem occ_fold (s sub : Str) (hi : Nat) : Builtin.Str.occurrences s sub 0 hi 1 = ((List.range' 0 (hi + 1)).foldl (fun st i => occStep s sub hi i st) (#[], 0)).1.toList := by
  unfold Builtin.Str.occurrences
  simp only [Id.run, Std.Legacy.Range.forIn_eq_forIn_range', Std.Legacy.Range.size]
  have e : (hi + 1 - 0 + 1 - 1) / 1 = hi + 1 := by omega
  rw [e]
  have h := occ_run s sub hi (List.range' 0 (hi + 1)) (#[], 0)
  show (Bind.bind (m := Id) (forIn (m := Id) (List.range' 0 (hi + 1)) (#[], 0) _) _) = _
  rw [h]
  rfl
theorem occ_some (s sub : Str) (hi : Nat) : ∀ (l : List Nat) (st : Array Nat × Nat), 1 ≤ st.1.size → (l.foldl (fun st i => occStep s sub hi i st) st).1 = st.1
  | [], _, _ => rfl
  | i :: l, st, h => by
    rw [List.foldl_cons]
    have e : occStep s sub hi i st = (st.1, st.2) := by
      unfold occStep
      rw [decide_eq_false (show ¬ st.1.size < 1 by omega)]
      rfl
    rw [e]
    exact occ_some s sub hi l _ h
theorem occ_any (s sub : Str) (hi : Nat) : ∀ l : List Nat, ((l.foldl (fun st i => occStep s sub hi i st) (#[], 0)).1.toList.isEmpty) = !(l.any fun i => decide (i + sub.length ≤ hi) && Builtin.Str.subAt s sub i)
  | [] => rfl
  | i :: l => by
    rw [List.foldl_cons, List.any_cons]
    by_cases c : (decide (i + sub.length ≤ hi) && Builtin.Str.subAt s sub i) = true
    · have e : occStep s sub hi i (#[], 0) = (#[].push i, i + sub.length) := by
        unfold occStep
        have : (decide ((#[] : Array Nat).size < 1) && decide (0 ≤ i) && decide (i + sub.length ≤ hi) && Builtin.Str.subAt s sub i) = true := by simpa using c
        rw [if_pos this]
      rw [e, occ_some _ _ _ _ _ (by simp), c]
      rfl
    · have e : occStep s sub hi i (#[], 0) = (#[], 0) := by
        unfold occStep
        have : ¬ (decide ((#[] : Array Nat).size < 1) && decide (0 ≤ i) && decide (i + sub.length ≤ hi) && Builtin.Str.subAt s sub i) = true := by simpa using c
        rw [if_neg this]
      rw [e, occ_any s sub hi l]
      have : (decide (i + sub.length ≤ hi) && Builtin.Str.subAt s sub i) = false := by simpa using c
      rw [this, Bool.false_or]
theorem in_one (c : Nat) (g : Str) : (!(Builtin.Str.occurrences g ⟨#[c]⟩ 0 g.length 1).isEmpty) = decide (c ∈ cl g) := by
  rw [occ_fold, occ_any, Bool.not_not, Bool.eq_iff_iff, List.any_eq_true, decide_eq_true_eq]
  have key : ∀ i, i + 1 ≤ g.length → (Builtin.Str.subAt g ⟨#[c]⟩ i = true ↔ (cl g)[i]? = some c) := fun i hi => by
    unfold Builtin.Str.subAt
    show ((g.cps.extract i (i + 1) == #[c]) = true) ↔ _
    rw [beq_iff_eq]
    have hs : i < g.cps.size := hi
    have e : g.cps.extract i (i + 1) = #[g.cps[i]] := by
      apply Array.ext
      · simp; omega
      · intro j h1 h2
        simp at h2
        subst h2
        simp
    rw [e]
    show _ ↔ g.cps.toList[i]? = some c
    rw [Array.getElem?_toList, Array.getElem?_eq_getElem hs]
    simp
  constructor
  · rintro ⟨i, _, h⟩
    rw [Bool.and_eq_true, decide_eq_true_eq] at h
    exact List.mem_of_getElem? ((key i h.1).mp h.2)
  · intro h
    obtain ⟨i, hi, e⟩ := List.getElem_of_mem h
    have hi' : i + 1 ≤ g.length := by rw [cl_length] at hi; omega
    refine ⟨i, List.mem_range'_1.mpr ⟨Nat.zero_le _, by omega⟩, ?_⟩
    rw [Bool.and_eq_true, decide_eq_true_eq]
    exact ⟨hi', (key i hi').mpr (by rw [← e]; exact List.getElem?_eq_getElem hi)⟩
end L3
namespace L3
open PySem PySem.Spec PyProof.Rows L2 PySem.W
section
variable {X : Cx}
theorem vals_ints {ns : List Int} : ∀ {its : List Value}, Vals (ns.map V.int) its → ∀ (m : Nat) (u : Value), its[m]? = some u → ∃ k t, u = .int k t ∧ ns[m]? = some k := by
  induction ns with
  | nil => intro its r m u e; cases r; simp at e
  | cons n ns ih =>
    intro its r m u e
    cases r with
    | cons r1 r2 =>
      obtain ⟨t, rfl⟩ := r1
      cases m with
      | zero => simp at e; exact ⟨n, t, e.symm, rfl⟩
      | succ m => exact ih r2 m u (by simpa using e)
end
end L3
namespace L3
open PySem PySem.Spec PyProof.Rows L2 PySem.W
section
variable {prog : Program} {w : World} {A : Around} {E : Value → Shared → Prop} {s : Shared}
structure Gv (prog : Program) (w : World) (it : Addr) (fp : List Addr) (xs : Array Value) (St : Nat → Heap → Prop) : Prop where
  keep : ∀ i h h', St i h → (∀ b ∈ fp, ∀ o, h.get? b = some o → h'.get? b = some o) → St i h'
  item : ∀ i x (s : Shared) (A : Around) (Q : Value → Shared → Prop) (E : Value → Shared → Prop), St i s.heap → xs[i]? = some x → (∀ h', St (i + 1) h' → Heap.SameBut it s.heap h' → Q x { s with heap := h' }) → wpAny (model prog w) A (Builtin.SmallTypes.nextOf (.ref it)) Q E s
  done : ∀ i (s : Shared) (A : Around) (Q : Value → Shared → Prop) (E : Value → Shared → Prop), A.handled = none → St i s.heap → xs[i]? = none → (∀ h' e, Heap.ExtBut it s.heap h' → (∃ o, h'.get? e = some o ∧ o.cls = .type "StopIteration") → E (.ref e) { s with heap := h' }) → wpAny (model prog w) A (Builtin.SmallTypes.nextOf (.ref it)) Q E s
theorem gv_list {it l : Addr} {xs : Array Value} (n : l ≠ it) : Gv prog w it [it, l] xs (fun i h => h.IsListIter it l i ∧ h.IsList l xs) where
  keep := fun i h h' ⟨⟨o, e, r⟩, ⟨u, f, q⟩⟩ k => ⟨⟨o, k it (by simp) o e, r⟩, ⟨u, k l (by simp) u f, q⟩⟩
  item := fun i x s A Q E st hx q => wpAny_nextOf_list_item st.1 st.2 hx fun h' st' sb => q h' ⟨st', st.2.extBut sb.extBut n⟩ sb
  done := fun i s A Q E hh st hx q => wpAny_nextOf_list_end hh st.1 st.2 hx fun h' e eb he => q h' e eb he
theorem gv_tup {it t : Addr} {xs : Array Value} (n : t ≠ it) : Gv prog w it [it, t] xs (fun i h => h.IsTupleIter it t i ∧ h.IsTuple t xs) where
  keep := fun i h h' ⟨⟨o, e, r⟩, ⟨u, f, q⟩⟩ k => ⟨⟨o, k it (by simp) o e, r⟩, ⟨u, k t (by simp) u f, q⟩⟩
  item := fun i x s A Q E st hx q => by
    obtain ⟨a, ea, ca, da⟩ := id st.1
    obtain ⟨b, eb, cb, nb, db⟩ := id st.2
    unfold Builtin.SmallTypes.nextOf
    refine wpAny_bind (wpAny_callSpecial?_slot (name := Str.ofString "__next__") st.1.typeIs PySem.F.slot_tuple_iterator_next (wpAny_call_entry PySem.F.slot_tuple_iterator_next st.1.typeIs PySem.F.entry_tuple_iterator_next ?_ (PySem.F.args_tuple_iterator_next_1 _)))
    refine wpAny_bind (wpAny_pure (wpAny_bind (wpAny_field ea da (x := .ref t) rfl ?_)))
    show wpAny _ _ (if (Value.ref t == Value.none) = true then _ else _) _ _ _
    rw [if_neg (by intro z; cases z)]
    refine wpAny_bind (wpAny_field ea da (x := .int i 0) rfl ?_)
    refine wpAny_bind (wpAny_seqItems eb db ?_)
    simp only [Int.toNat_natCast, hx]
    have sb : Heap.SameBut it s.heap (s.heap.update it (Obj.mapFields (·.setIfInBounds 1 (rawInt ((i : Int) + 1))))) := Heap.SameBut.update ..
    exact wpAny_bind (wpAny_setField ea da (by simp) (wpAny_pure ⟨x, rfl, wpAny_pure (q _ ⟨⟨_, Heap.get?_update_self _ ea (Obj.isFreed_of_fields (Obj.data_mapFields da _)), (Obj.cls_mapFields ..).trans ca, by rw [Obj.data_mapFields da]; simp [rawInt]⟩, st.2.extBut sb.extBut n⟩ sb)⟩))
  done := fun i s A Q E hh st hx q => by
    obtain ⟨a, ea, ca, da⟩ := id st.1
    obtain ⟨b, eb, cb, nb, db⟩ := id st.2
    unfold Builtin.SmallTypes.nextOf
    refine wpAny_bind (wpAny_callSpecial?_slot (name := Str.ofString "__next__") st.1.typeIs PySem.F.slot_tuple_iterator_next (wpAny_call_entry PySem.F.slot_tuple_iterator_next st.1.typeIs PySem.F.entry_tuple_iterator_next ?_ (PySem.F.args_tuple_iterator_next_1 _)))
    refine wpAny_bind (wpAny_pure (wpAny_bind (wpAny_field ea da (x := .ref t) rfl ?_)))
    show wpAny _ _ (if (Value.ref t == Value.none) = true then _ else _) _ _ _
    rw [if_neg (by intro z; cases z)]
    refine wpAny_bind (wpAny_field ea da (x := .int i 0) rfl ?_)
    refine wpAny_bind (wpAny_seqItems eb db ?_)
    simp only [Int.toNat_natCast, hx]
    refine wpAny_bind (wpAny_rule (wpAny_bind (wpAny_setField ea da (by simp) ?_)))
    show wpAny _ _ (newExc (.type "StopIteration") ([] : List Value) >>= _) _ _ _
    refine wpAny_bind ?_
    simp only [newExc, newTuple]
    refine wpAny_bind (wpAny_newObj_type (wpAny_bind (m := firstArgMember _ _) (wpAny_of_eq (a := .none) (by first | rfl | (simp only [firstArgMember]; rfl)) (wpAny_newObj_type ?_ (by size_fits)))) (by size_fits))
    simp only [raiseNew]
    refine wpAny_bind (wpAny_handled ?_)
    rw [show A.in1.handled = none from hh]
    exact wpAny_bind (wpAny_pure (wpAny_throw (q _ _ (((Heap.SameBut.update ..).extBut.push _).push _) ⟨_, Heap.get?_push_size _ rfl, rfl⟩)))
structure ZpA (z TI TO i1 i2 : Addr) (f1 f2 : List Addr) : Prop where
  TIz : TI ≠ z
  TOz : TO ≠ z
  TIO : TI ≠ TO
  TI1 : TI ≠ i1
  TI2 : TI ≠ i2
  m1 : i1 ∈ f1
  m2 : i2 ∈ f2
  a1 : ∀ b ∈ f1, b ≠ z ∧ b ≠ TO ∧ b ≠ i2
  a2 : ∀ b ∈ f2, b ≠ z ∧ b ≠ TO ∧ b ≠ i1
variable {z TI TO i1 i2 : Addr} {f1 f2 : List Addr} {xs ys : Array Value} {S1 S2 : Nat → Heap → Prop}
theorem zp_item {k : Nat} {x y a b : Value} {Q : Option Value → Shared → Prop} (G1 : Gv prog w i1 f1 xs S1) (G2 : Gv prog w i2 f2 ys S2) (D : ZpA z TI TO i1 i2 f1 f2)
    (hz : IsZip s.heap z TI TO .none) (hI : IsPair s.heap TI (.ref i1) (.ref i2)) (hO : IsPair s.heap TO a b) (s1 : S1 k s.heap) (s2 : S2 k s.heap) (hx : xs[k]? = some x) (hy : ys[k]? = some y)
    (q : ∀ h', IsZip h' z TI TO (rawInt s.heap.objs.size) → IsPair h' TO x y → S1 (k + 1) h' → S2 (k + 1) h' → IsPair h' s.heap.objs.size x y → (∀ c o, c ≠ z → c ≠ TO → c ≠ i1 → c ≠ i2 → s.heap.get? c = some o → h'.get? c = some o) → Q (some (.ref s.heap.objs.size)) { s with heap := h' }) :
    wpAny (model prog w) A (pyNext (.ref z)) Q E s := by
  have ty : s.TypeIs (.ref z) "zip" := ⟨_, hz, rfl⟩
  unfold pyNext
  refine wpAny_bind (wpAny_attempt (wpAny_callSpecial?_slot (name := Str.ofString "__next__") ty PySem.F.slot_zip_next (wpAny_call_entry PySem.F.slot_zip_next ty PySem.F.entry_zip_next ?_ (PySem.F.args_zip_next_1 _))))
  unfold Builtin.«zip.__next__»
  refine wpAny_bind (wpAny_pure ?_)
  show wpAny _ _ (field (Value.ref z) 2 >>= fun _ => _) _ _ _
  refine wpAny_bind (wpAny_field hz rfl (x := .bool false) rfl ?_)
  show wpAny _ _ (field (Value.ref z) 3 >>= fun _ => _) _ _ _
  refine wpAny_bind (wpAny_field hz rfl (x := .ref TI) rfl (wpAny_bind (wpAny_seqItems hI rfl ?_)))
  show wpAny _ _ (Builtin.SmallTypes.ownedTupleIsFree (Value.ref z) >>= fun _ => _) _ _ _
  unfold Builtin.SmallTypes.ownedTupleIsFree
  refine wpAny_bind (wpAny_bind (wpAny_field hz rfl (x := .none) rfl (wpAny_pure ?_)))
  simp only [if_true]
  refine wpAny_bind (wpAny_rule (wpAny_bind (wpAny_field hz rfl (x := .ref TO) rfl ?_)))
  refine wpAny_bind (wpAny_setField_rec hz (by simp) fun k1 z1 u1 => ?_)
  replace z1 : IsZip k1 z TI TO .ellipsis := z1
  replace u1 : Heap.SameBut z s.heap k1 := u1
  refine wpAny_bind ?_
  simp only [List.zipIdx_cons, List.zipIdx_nil, List.forIn_cons, List.forIn_nil]
  have p1 : S1 k k1 := G1.keep _ _ _ s1 fun b hb o e => u1.extBut b o (D.a1 b hb).1 e
  have p2 : S2 k k1 := G2.keep _ _ _ s2 fun b hb o e => u1.extBut b o (D.a2 b hb).1 e
  have i1z := (D.a1 _ D.m1).1
  have i1O := (D.a1 _ D.m1).2.1
  have i12 := (D.a1 _ D.m1).2.2
  have i2z := (D.a2 _ D.m2).1
  have i2O := (D.a2 _ D.m2).2.1
  refine wpAny_bind (wpAny_bind (wpAny_onRaise ?_))
  show wpAny _ _ (Builtin.SmallTypes.nextOf (Value.ref i1) >>= fun _ => _) _ _ _
  refine wpAny_bind (G1.item k x { s with heap := k1 } _ _ _ p1 hx fun k2 q1 u2 => wpAny_pure ?_)
  replace u2 : Heap.SameBut i1 k1 k2 := u2
  have t2 : IsPair k2 TO a b := u2.extBut _ _ i1O.symm (u1.extBut _ _ D.TOz hO)
  have q2 : S2 k k2 := G2.keep _ _ _ p2 fun b hb o e => u2.extBut b o (D.a2 b hb).2.2 e
  refine wpAny_bind (wpAny_seqItems t2 rfl (wpAny_bind (wpAny_updateSeq_pair t2 fun k3 t3 u3 => wpAny_bind (wpAny_letGo (wpAny_pure ?_)))))
  replace t3 : IsPair k3 TO x b := t3
  replace u3 : Heap.SameBut TO k2 k3 := u3
  have r1 : S1 (k + 1) k3 := G1.keep _ _ _ q1 fun b hb o e => u3.extBut b o (D.a1 b hb).2.1 e
  have r2 : S2 k k3 := G2.keep _ _ _ q2 fun b hb o e => u3.extBut b o (D.a2 b hb).2.1 e
  refine wpAny_bind (wpAny_bind (wpAny_onRaise ?_))
  show wpAny _ _ (Builtin.SmallTypes.nextOf (Value.ref i2) >>= fun _ => _) _ _ _
  refine wpAny_bind (G2.item k y { s with heap := k3 } _ _ _ r2 hy fun k4 v2 u4 => wpAny_pure ?_)
  replace u4 : Heap.SameBut i2 k3 k4 := u4
  have t4 : IsPair k4 TO x b := u4.extBut _ _ i2O.symm t3
  have v1 : S1 (k + 1) k4 := G1.keep _ _ _ r1 fun b hb o e => u4.extBut b o (D.a1 b hb).2.2 e
  refine wpAny_bind (wpAny_seqItems t4 rfl (wpAny_bind (wpAny_updateSeq_pair t4 fun k5 t5 u5 => wpAny_bind (wpAny_letGo (wpAny_pure (wpAny_pure ?_))))))
  replace t5 : IsPair k5 TO x y := t5
  replace u5 : Heap.SameBut TO k4 k5 := u5
  have w1 : S1 (k + 1) k5 := G1.keep _ _ _ v1 fun b hb o e => u5.extBut b o (D.a1 b hb).2.1 e
  have w2 : S2 (k + 1) k5 := G2.keep _ _ _ v2 fun b hb o e => u5.extBut b o (D.a2 b hb).2.1 e
  have z5 : IsZip k5 z TI TO .ellipsis := u5.extBut _ _ D.TOz.symm (u4.extBut _ _ i2z.symm (u3.extBut _ _ D.TOz.symm (u2.extBut _ _ i1z.symm z1)))
  have sz : k5.objs.size = s.heap.objs.size := by rw [u5.1, u4.1, u3.1, u2.1, u1.1]
  have g5 : ∀ c o, c ≠ z → c ≠ TO → c ≠ i1 → c ≠ i2 → s.heap.get? c = some o → k5.get? c = some o := fun c o c1 c2 c3 c4 e => u5.extBut _ _ c2 (u4.extBut _ _ c4 (u3.extBut _ _ c2 (u2.extBut _ _ c3 (u1.extBut _ _ c1 e))))
  refine wpAny_bind (wpAny_seqItems t5 rfl (wpAny_bind (wpAny_newTuple ?_)))
  show wpAny _ _ (Builtin.SmallTypes.ownedTupleHandOut (Value.ref z) (Value.ref k5.objs.size) >>= fun _ => _) _ _ _
  unfold Builtin.SmallTypes.ownedTupleHandOut
  have z6 : IsZip (k5.push { cls := .type "tuple", data := .seq #[x, y] }) z TI TO .ellipsis := Heap.get?_push_of_some _ z5
  refine wpAny_bind (wpAny_bind (wpAny_setField_rec z6 (by simp) fun k7 z7 u7 => ?_))
  replace z7 : IsZip k7 z TI TO (rawInt k5.objs.size) := z7
  refine wpAny_setField_rec z7 (by simp) fun k8 z8 u8 => ?_
  replace z8 : IsZip k8 z TI TO (rawInt k5.objs.size) := z8
  have up : ∀ c o, c ≠ z → k5.get? c = some o → k8.get? c = some o := fun c o c1 e => u8.extBut _ _ c1 (u7.extBut _ _ c1 (Heap.get?_push_of_some _ e))
  have lt : z < k5.objs.size := Heap.lt_size z5
  have t8 : IsPair k8 k5.objs.size x y := u8.extBut _ _ (Nat.ne_of_gt lt) (u7.extBut _ _ (Nat.ne_of_gt lt) (Heap.get?_push_size _ rfl))
  rw [sz] at z8 t8
  refine wpAny_pure ⟨_, rfl, wpAny_pure ?_⟩
  show Q (some (.ref k5.objs.size)) _
  rw [sz]
  exact q k8 z8 (up _ _ D.TOz t5) (G1.keep _ _ _ w1 fun b hb o e => up b o (D.a1 b hb).1 e) (G2.keep _ _ _ w2 fun b hb o e => up b o (D.a2 b hb).1 e) t8 fun c o c1 c2 c3 c4 e => up c o c1 (g5 c o c1 c2 c3 c4 e)
theorem zp_end {k : Nat} {a b : Value} {Q : Option Value → Shared → Prop} (hh : A.handled = none) (G1 : Gv prog w i1 f1 xs S1) (G2 : Gv prog w i2 f2 ys S2) (D : ZpA z TI TO i1 i2 f1 f2)
    (hz : IsZip s.heap z TI TO .none) (hI : IsPair s.heap TI (.ref i1) (.ref i2)) (hO : IsPair s.heap TO a b) (s1 : S1 k s.heap) (s2 : S2 k s.heap) (hx : xs[k]? = none)
    (q : ∀ h', (∀ c o, c ≠ z → c ≠ TO → c ≠ i1 → c ≠ i2 → s.heap.get? c = some o → h'.get? c = some o) → Q none { s with heap := h' }) :
    wpAny (model prog w) A (pyNext (.ref z)) Q E s := by
  have ty : s.TypeIs (.ref z) "zip" := ⟨_, hz, rfl⟩
  unfold pyNext
  refine wpAny_bind (wpAny_attempt (wpAny_callSpecial?_slot (name := Str.ofString "__next__") ty PySem.F.slot_zip_next (wpAny_call_entry PySem.F.slot_zip_next ty PySem.F.entry_zip_next ?_ (PySem.F.args_zip_next_1 _))))
  unfold Builtin.«zip.__next__»
  refine wpAny_bind (wpAny_pure ?_)
  show wpAny _ _ (field (Value.ref z) 2 >>= fun _ => _) _ _ _
  refine wpAny_bind (wpAny_field hz rfl (x := .bool false) rfl ?_)
  show wpAny _ _ (field (Value.ref z) 3 >>= fun _ => _) _ _ _
  refine wpAny_bind (wpAny_field hz rfl (x := .ref TI) rfl (wpAny_bind (wpAny_seqItems hI rfl ?_)))
  show wpAny _ _ (Builtin.SmallTypes.ownedTupleIsFree (Value.ref z) >>= fun _ => _) _ _ _
  unfold Builtin.SmallTypes.ownedTupleIsFree
  refine wpAny_bind (wpAny_bind (wpAny_field hz rfl (x := .none) rfl (wpAny_pure ?_)))
  simp only [if_true]
  refine wpAny_bind (wpAny_rule (wpAny_bind (wpAny_field hz rfl (x := .ref TO) rfl ?_)))
  refine wpAny_bind (wpAny_setField_rec hz (by simp) fun k1 z1 u1 => ?_)
  replace z1 : IsZip k1 z TI TO .ellipsis := z1
  replace u1 : Heap.SameBut z s.heap k1 := u1
  refine wpAny_bind ?_
  simp only [List.zipIdx_cons, List.zipIdx_nil, List.forIn_cons, List.forIn_nil]
  have p1 : S1 k k1 := G1.keep _ _ _ s1 fun b hb o e => u1.extBut b o (D.a1 b hb).1 e
  refine wpAny_bind (wpAny_bind (wpAny_onRaise ?_))
  show wpAny _ _ (Builtin.SmallTypes.nextOf (Value.ref i1) >>= fun _ => _) _ _ _
  refine wpAny_bind (G1.done k { s with heap := k1 } _ _ _ hh p1 hx fun k2 e u2 he => ?_)
  obtain ⟨oe, h1, h2⟩ := he
  replace u2 : Heap.ExtBut i1 k1 k2 := u2
  have z2 : IsZip k2 z TI TO .ellipsis := u2 _ _ (D.a1 _ D.m1).1.symm z1
  have nez : e ≠ z := fun c => by subst c; rw [z2] at h1; cases h1; simp at h2
  refine wpAny_setField_rec z2 (by simp) fun k3 z3 u3 => ?_
  refine wpAny_bind (wpAny_isInstance (b := true) (T := "StopIteration") ⟨oe, u3.extBut _ _ nez h1, h2⟩ isSubtype_stop ?_)
  exact wpAny_pure (q _ fun c o c1 _ c3 _ w => u3.extBut _ _ c1 (u2 _ _ c3 (u1.extBut _ _ c1 w)))
end
section
variable {X : Cx} {pins : List (Addr × Obj)} {σ : List (Option V)} {H : Hp} {s : Shared} {h' : Heap}
theorem turnedL {t' : Nat} {ch : List Addr} (I : Inv X pins σ H s) (k : ∀ b o, b ∉ ch → s.heap.get? b = some o → h'.get? b = some o) (f : ∀ b ∈ ch, FpOk X pins H b) : Inv X pins σ H { s with heap := h', toks := t' } := by
  have ne : ∀ b u, H b = some u → b ∉ ch := fun b u q z => by rw [(f b z).1] at q; cases q
  refine I.step (g' := s.gens) (d' := s.drawn) (ch := ch) (fun b hb => ⟨(f b hb).2.2.2.1, (f b hb).2.1, (f b hb).2.2.2.2.1, (f b hb).2.2.2.2.2⟩) (fun b o _ _ hc q _ => k b o hc q) (fun b o _ _ hc q _ => ⟨o.slots, k b o hc q⟩) (fun _ _ _ _ n => n)
    (fun b o hc q => ⟨o, k b o hc q⟩) (fun _ _ q => q) (fun _ _ _ q => q) (fun b ps q => ⟨#[], by rw [q]; simp⟩) ?_ ?_ I.bare
  · rintro m ⟨o, es, ep, ho, r⟩
    exact ⟨o, es, ep, k _ o (fun z => (f _ z).2.1 rfl) ho, r⟩
  · intro b u q
    refine (I.hok b u q).stay (fun c v hc z => k c v ?_ z) (fun _ z => z) fun _ _ z => z
    rcases hc with y | y
    · rw [y]; exact ne b u q
    · exact ne c _ y
end
def Itz (K : PySem.W.Frag) (t l : Addr) : It :=
  ⟨fun i H => ∃ xs ys x y, SqT K H t xs ∧ SqL K H l ys ∧ xs[i]? = some x ∧ ys[i]? = some y, fun i H v H' => ∃ p x y, H p = none ∧ v = .ref p ∧ H' = upd H p (.tup [x, y]) ∧ (∀ xs, SqT K H t xs → xs[i]? = some x) ∧ ∀ ys, SqL K H l ys → ys[i]? = some y, fun i H => ∃ xs ys, SqT K H t xs ∧ SqL K H l ys ∧ xs.length ≤ i⟩
theorem turn_zip {P : Program} {w : World} {K : PySem.W.Frag} {es : List Expr} {x1 : Nat} {tp : Pos} {t l z TI TO i1 i2 : Addr} (D : ZpA z TI TO i1 i2 [i1, t] [i2, l]) (n1 : t ≠ i1) (n2 : l ≠ i2) :
    Turn P w K (.Tuple es x1 tp) (Itz K t l) [z, TI, TO, i1, i2] z (fun i h => IsZip h z TI TO .none ∧ IsPair h TI (.ref i1) (.ref i2) ∧ (∃ a b, IsPair h TO a b) ∧ h.IsTupleIter i1 t i ∧ h.IsListIter i2 l i) where
  mem := by simp
  obj := by
    rintro i h ⟨hz, hI, ⟨a, b, hO⟩, ⟨o1, e1, c1, d1⟩, ⟨o2, e2, c2, d2⟩⟩ c hc
    simp only [List.mem_cons, List.not_mem_nil, or_false] at hc
    rcases hc with rfl | rfl | rfl | rfl | rfl
    · exact ⟨_, hz, fun v z => by cases z⟩
    · exact ⟨_, hI, fun v z => by cases z⟩
    · exact ⟨_, hO, fun v z => by cases z⟩
    · exact ⟨_, e1, fun v z => by rw [d1] at z; cases z⟩
    · exact ⟨_, e2, fun v z => by rw [d2] at z; cases z⟩
  keep := by
    rintro i h h' ⟨hz, hI, ⟨a, b, hO⟩, ⟨o1, e1, r1⟩, ⟨o2, e2, r2⟩⟩ k
    exact ⟨k z (by simp) _ hz, k TI (by simp) _ hI, ⟨a, b, k TO (by simp) _ hO⟩, ⟨o1, k i1 (by simp) _ e1, r1⟩, ⟨o2, k i2 (by simp) _ e2, r2⟩⟩
  item := by
    intro X hP hw hK hc i pins s σ H E I hf st hg
    subst hP hw hK
    obtain ⟨hz, hI, ⟨a, b, hO⟩, h1, h2⟩ := st
    obtain ⟨xs, ys, x, y, hT, hL, hx, hy⟩ := hg
    obtain ⟨its, rv, pT, hz1⟩ := I.tuple hT
    obtain ⟨jts, rw', pL, hz2⟩ := I.list hL
    obtain ⟨u, hu, ru⟩ := rv.get hx
    obtain ⟨v, hv, rv2⟩ := rw'.get hy
    have hT1 : s.heap.IsTuple t its.toArray := pT
    have i1z := (D.a1 _ D.m1).1
    have i1O := (D.a1 _ D.m1).2.1
    have i2z := (D.a2 _ D.m2).1
    have i2O := (D.a2 _ D.m2).2.1
    refine zp_item (gv_tup (xs := its.toArray) n1) (gv_list (xs := jts.toArray) n2) D hz hI hO ⟨h1, hT1⟩ ⟨h2, pL.isList⟩ (x := u) (y := v) (by simpa using hu) (by simpa using hv) fun k1 z1 o1 s1 s2 p1 g1 => ⟨_, rfl, ?_⟩
    refine wpAny_letOwnedTupleGo_zip z1 fun k2 z2 u2 => ?_
    replace u2 : Heap.SameBut z k1 k2 := u2
    have lz : z < s.heap.objs.size := Heap.lt_size hz
    have hp0 : H s.heap.objs.size = none := I.hok.fresh (Nat.le_refl _)
    have p2 : IsPair k2 s.heap.objs.size u v := u2.extBut _ _ (Nat.ne_of_gt lz) p1
    have I1 : Inv X pins σ (upd H s.heap.objs.size (.tup [x, y])) { s with heap := s.heap.push { cls := .type "tuple", data := .seq #[u, v] } } :=
      I.laid (t' := s.toks) (fun b v q => Heap.get?_push_of_some _ q) (Nat.le_refl _) ⟨by show 2 ≤ sizeLine; decide, [u, v], .cons ru (.cons rv2 .nil), ⟨_, Heap.get?_push_size _ rfl, rfl, _, rfl⟩⟩
    have lt : ∀ c ∈ [z, TI, TO, i1, i2], c < s.heap.objs.size := fun c hc => by
      simp only [List.mem_cons, List.not_mem_nil, or_false] at hc
      obtain ⟨o1, e1, _⟩ := h1
      obtain ⟨o2, e2, _⟩ := h2
      rcases hc with rfl | rfl | rfl | rfl | rfl
      · exact lz
      · exact Heap.lt_size hI
      · exact Heap.lt_size hO
      · exact Heap.lt_size e1
      · exact Heap.lt_size e2
    have off : ∀ c ∈ [z, TI, TO, i1, i2], FpOk X pins (upd H s.heap.objs.size (.tup [x, y])) c := fun c hc => ⟨by rw [upd_ne (Nat.ne_of_lt (lt c hc))]; exact (hf c hc).1, (hf c hc).2⟩
    have I2 : Inv X pins σ (upd H s.heap.objs.size (.tup [x, y])) { s with heap := k2 } := turnedL (s := { s with heap := s.heap.push { cls := .type "tuple", data := .seq #[u, v] } }) (t' := s.toks) (ch := [z, TI, TO, i1, i2]) I1 (fun c o nc q => by
      simp only [List.mem_cons, List.not_mem_nil, or_false, not_or] at nc
      replace q : (s.heap.push { cls := .type "tuple", data := .seq #[u, v] }).get? c = some o := q
      rcases Heap.get?_push_cases q with ⟨y1, y2⟩ | q'
      · subst y1; subst y2; exact p2
      · exact u2.extBut c o nc.1 (g1 c o nc.1 nc.2.2.1 nc.2.2.2.1 nc.2.2.2.2 q')) off
    refine ⟨.ref s.heap.objs.size, _, I2, rfl, ⟨_, x, y, hp0, rfl, rfl, fun xs' h' => by rw [I.tuple_inj h' hT]; exact hx, fun ys' h' => by rw [I.list_inj h' hL]; exact hy⟩, ⟨z2, u2.extBut _ _ D.TIz (g1 _ _ D.TIz D.TIO D.TI1 D.TI2 hI), ⟨_, _, u2.extBut _ _ D.TOz o1⟩, s1.1.extBut u2.extBut i1z, s2.1.extBut u2.extBut i2z⟩, fun c hc => (off c hc).1⟩
  done := by
    intro X hP hw hK hc i pins s σ H E I hf st hg
    subst hP hw hK
    obtain ⟨hz, hI, ⟨a, b, hO⟩, h1, h2⟩ := st
    obtain ⟨xs, ys, hT, hL, hx⟩ := hg
    obtain ⟨its, rv, pT, hz1⟩ := I.tuple hT
    obtain ⟨jts, rw', pL, hz2⟩ := I.list hL
    have hl := rv.length
    have hT1 : s.heap.IsTuple t its.toArray := pT
    refine zp_end (I.ok.hd hc) (gv_tup (xs := its.toArray) n1) (gv_list (xs := jts.toArray) n2) D hz hI hO ⟨h1, hT1⟩ ⟨h2, pL.isList⟩ (by simp; omega) fun k1 g1 => ⟨rfl, turnedL (t' := s.toks) (ch := [z, TI, TO, i1, i2]) I (fun c o nc q => ?_) hf⟩
    simp only [List.mem_cons, List.not_mem_nil, or_false, not_or] at nc
    exact g1 c o nc.1 nc.2.2.1 nc.2.2.2.1 nc.2.2.2.2 q
  self := fun _ _ _ _ _ ⟨hz, _⟩ h => wpAny_pyIter_zip hz h
section
variable {prog : Program} {w : World} {A : Around} {E : Value → Shared → Prop} {s : Shared}
theorem zp_new {t l : Addr} {xs ys : Array Value} {Q : Value → Shared → Prop} (ht : s.heap.IsTuple t xs) (hl : s.heap.IsList l ys)
    (q : ∀ h' z TI TO i1 i2, s.heap.objs.size = i1 → i2 = i1 + 1 → TI = i1 + 2 → TO = i1 + 3 → z = i1 + 4 → IsZip h' z TI TO .none → IsPair h' TI (.ref i1) (.ref i2) → IsPair h' TO .none .none → h'.IsTupleIter i1 t 0 → h'.IsListIter i2 l 0 → (∀ c o, s.heap.get? c = some o → h'.get? c = some o) → Q (.ref z) { s with heap := h' }) :
    wpAny (model prog w) A (call (.type "zip") [.ref t, .ref l]) Q E s := by
  refine callType_new PySem.F.called_zip (by decide) (PySem.F.typeCall_zip_2 _ _) (PySem.F.newCall_zip_2 _ _) (fun obj => PySem.F.args_object_init_3 obj _ _) PySem.F.entry_zip_new (S := fun _ R s => s.heap.IsTuple t xs ∧ s.heap.IsList l ys ∧ ∀ h', h' = ((((s.heap.push { cls := .type "tuple_iterator", data := .fields #[.ref t, .int 0 0] }).push { cls := .type "list_iterator", data := .fields #[.ref l, .int 0 0] }).push { cls := .type "tuple", data := .seq #[.ref s.heap.objs.size, .ref (s.heap.objs.size + 1)] }).push { cls := .type "tuple", data := .seq #[.none, .none] }).push { cls := .type "zip", data := .fields #[.none, .bool false, .bool false, .ref (s.heap.objs.size + 2), .ref (s.heap.objs.size + 3)] } → R (.ok (.ret (.ref (s.heap.objs.size + 4)))) { s with heap := h' }) ?_ ⟨ht, hl, fun h' e => ?_⟩
  · refine .of_wp fun prog w A R s h => ?_
    obtain ⟨hp, g, d, tk, os⟩ := s
    obtain ⟨h1, h2, h⟩ := h
    have hsub := PySem.sub_zip
    have L1 : Heap.IsTuple (Shared.heap ⟨hp, g, d, tk, os⟩) t xs := h1
    have L2 : Heap.IsList (Shared.heap ⟨hp.push { cls := .type "tuple_iterator", data := .fields #[.ref t, .int 0 0] }, g, d, tk, os⟩) l ys := Heap.IsList.push h2 _
    wp_walk using wpAny_pyIter_tuple L1, wpAny_pyIter_list L2
    refine ⟨_, rfl, ?_⟩
    have h' := h _ rfl
    simp [Heap.size_push]
    exact h'
  · obtain ⟨k1, e1⟩ : ∃ k, k = s.heap.push { cls := .type "tuple_iterator", data := .fields #[.ref t, .int 0 0] } := ⟨_, rfl⟩
    obtain ⟨k2, e2⟩ : ∃ k, k = k1.push { cls := .type "list_iterator", data := .fields #[.ref l, .int 0 0] } := ⟨_, rfl⟩
    obtain ⟨k3, e3⟩ : ∃ k, k = k2.push { cls := .type "tuple", data := .seq #[.ref s.heap.objs.size, .ref (s.heap.objs.size + 1)] } := ⟨_, rfl⟩
    obtain ⟨k4, e4⟩ : ∃ k, k = k3.push { cls := .type "tuple", data := .seq #[.none, .none] } := ⟨_, rfl⟩
    rw [← e1, ← e2, ← e3, ← e4] at e
    have c1 : k1.objs.size = s.heap.objs.size + 1 := by rw [e1]; exact Heap.size_push ..
    have c2 : k2.objs.size = s.heap.objs.size + 2 := by rw [e2, Heap.size_push, c1]
    have c3 : k3.objs.size = s.heap.objs.size + 3 := by rw [e3, Heap.size_push, c2]
    have c4 : k4.objs.size = s.heap.objs.size + 4 := by rw [e4, Heap.size_push, c3]
    have u4 : ∀ c o, k4.get? c = some o → h'.get? c = some o := fun c o z => by rw [e]; exact Heap.get?_push_of_some _ z
    have u3 : ∀ c o, k3.get? c = some o → h'.get? c = some o := fun c o z => u4 c o (by rw [e4]; exact Heap.get?_push_of_some _ z)
    have u2 : ∀ c o, k2.get? c = some o → h'.get? c = some o := fun c o z => u3 c o (by rw [e3]; exact Heap.get?_push_of_some _ z)
    have u1 : ∀ c o, k1.get? c = some o → h'.get? c = some o := fun c o z => u2 c o (by rw [e2]; exact Heap.get?_push_of_some _ z)
    have u0 : ∀ c o, s.heap.get? c = some o → h'.get? c = some o := fun c o z => u1 c o (by rw [e1]; exact Heap.get?_push_of_some _ z)
    have G1 := u1 s.heap.objs.size _ (by rw [e1]; exact Heap.get?_push_size _ rfl)
    have G2 := u2 (s.heap.objs.size + 1) _ (by rw [e2, ← c1]; exact Heap.get?_push_size _ rfl)
    have G3 := u3 (s.heap.objs.size + 2) _ (by rw [e3, ← c2]; exact Heap.get?_push_size _ rfl)
    have G4 := u4 (s.heap.objs.size + 3) _ (by rw [e4, ← c3]; exact Heap.get?_push_size _ rfl)
    have G5 : h'.get? (s.heap.objs.size + 4) = some { cls := .type "zip", data := .fields #[.none, .bool false, .bool false, .ref (s.heap.objs.size + 2), .ref (s.heap.objs.size + 3)] } := by rw [e, ← c4]; exact Heap.get?_push_size _ rfl
    exact ⟨⟨_, G5, rfl⟩, q h' _ _ _ _ _ rfl rfl rfl rfl rfl G5 G3 G4 ⟨_, G1, rfl, rfl⟩ ⟨_, G2, rfl, rfl⟩ u0⟩
end
section
variable {X : Cx}
def iZip (K : PySem.W.Frag) (ta : TA) : TI := fun σ H R => ta σ H fun vs H1 => ∃ t l, vs = [.ref t, .ref l] ∧ (∃ xs, SqT K H1 t xs) ∧ (∃ ys, SqL K H1 l ys) ∧ R (Itz K t l) H1
theorem pi_zip {a b : Expr} {ta : TA} {p pos tp : Pos} {es : List Expr} {x1 : Nat} (hg : Gl X "zip") (hm : X.mg "zip" = none) (ha : PA X [a, b] ta) (hs : starEach [a, b] X.env = (false, eval a X.env) :: starEach [b] X.env := by rfl) (hp : (backTo pos (starEach [b] X.env)).any (·.1) = false := by rfl) :
    PI X (.Tuple es x1 tp) (.Call (.Name "zip" p) [a, b] [] pos) (iZip X.K ta) := by
  intro pins s σ H R I h
  refine Call_ (ld_blt I hg hm boot_zip (PyProof.Rows.callWith_type1 (thn (ha pos pins s σ H _ I h) fun us s1 ⟨vs, H1, I1, r1, q1⟩ => ?_) hs hp))
  obtain ⟨t, l, rfl, ⟨xs, hT⟩, ⟨ys, hL⟩, q⟩ := q1
  cases r1 with
  | cons r rr =>
    cases r
    cases rr with
    | cons r rr =>
      cases rr
      cases r
      obtain ⟨its, rv, pT, _⟩ := I1.tuple hT
      obtain ⟨jts, rw', pL, _⟩ := I1.list hL
      have hT1 : s1.heap.IsTuple t its.toArray := pT
      have lt : t < s1.heap.objs.size := by obtain ⟨o, e, _⟩ := hT1; exact Heap.lt_size e
      have ll : l < s1.heap.objs.size := by obtain ⟨o, e, _⟩ := pL.isList; exact Heap.lt_size e
      refine zp_new hT1 pL.isList fun h' z TI TO i1 i2 d1 d2 d3 d4 d5 hz hI hO h1 h2 kp => ?_
      refine wpAny_pyIter_zip hz ?_
      have ne : ∀ {a b : Nat}, ¬ (a = b) → a ≠ b := fun h => h
      have lN : ∀ {a b : Nat}, a < b → a < b := fun h => h
      have lt := lN lt
      have ll := lN ll
      have D : ZpA z TI TO i1 i2 [i1, t] [i2, l] := by
        refine ⟨ne (by omega), ne (by omega), ne (by omega), ne (by omega), ne (by omega), by simp, by simp, fun c hc => ?_, fun c hc => ?_⟩
        · simp only [List.mem_cons, List.not_mem_nil, or_false] at hc
          rcases hc with hc | hc <;> rw [hc] <;> exact ⟨ne (by omega), ne (by omega), ne (by omega)⟩
        · simp only [List.mem_cons, List.not_mem_nil, or_false] at hc
          rcases hc with hc | hc <;> rw [hc] <;> exact ⟨ne (by omega), ne (by omega), ne (by omega)⟩
      have n1 : t ≠ i1 := ne (by omega)
      have n2 : l ≠ i2 := ne (by omega)
      refine ⟨_, [z, TI, TO, i1, i2], _, _, H1, rfl, I1.kept (t' := s1.toks) kp, turn_zip (t := t) (l := l) D n1 n2, ⟨hz, hI, ⟨_, _, hO⟩, h1, h2⟩, fun c hc => ?_, q⟩
      · have hb : s1.heap.objs.size ≤ c := by
          simp only [List.mem_cons, List.not_mem_nil, or_false] at hc
          have le : ∀ {a b : Nat}, a ≤ b → a ≤ b := fun h => h
          rcases hc with hc | hc | hc | hc | hc <;> rw [hc] <;> exact le (by omega)
        exact I1.fpOk hb (I1.hok.fresh hb)
end
theorem for_zip {K : PySem.W.Frag} {t l : Addr} {xs ys : List V} {g : TG} {tb : TS} {D : Ends} {σ : L2.St} {H : Hp} (hlen : xs.length ≤ ys.length) (Pv : Nat → L2.St → Hp → Prop) (h0 : Pv 0 σ H) (hl : ∀ i σ H, i ≤ xs.length → Pv i σ H → SqT K H t xs ∧ SqL K H l ys)
    (hs : ∀ i x y p σ H, xs[i]? = some x → ys[i]? = some y → Pv i σ H → H p = none → g (.ref p) σ (upd H p (.tup [x, y])) fun σ2 H2 => tb { D with nx := Pv (i + 1), ct := Pv (i + 1), bk := D.nx } σ2 H2) (hd : ∀ σ H, Pv xs.length σ H → D.nx σ H) :
    ∃ W : Nat → Nat → L2.St → Hp → Prop, (∃ m, W 0 m σ H) ∧ ∀ i m σ H, W i m σ H →
      ((Itz K t l).stop i H ∧ D.nx σ H) ∨ ((Itz K t l).go i H ∧ ∃ N : L2.St → Hp → Prop, (∀ σ' H', N σ' H' → ∃ m', m' < m ∧ W (i + 1) m' σ' H') ∧ ∀ x H', (Itz K t l).yld i H x H' → g x σ H' fun σ2 H2 => tb { D with nx := N, ct := N, bk := D.nx } σ2 H2) := by
  refine ⟨fun i m σ H => m = xs.length - i ∧ i ≤ xs.length ∧ Pv i σ H, ⟨xs.length, by simp, Nat.zero_le _, h0⟩, ?_⟩
  rintro i m σ H ⟨rfl, hi, p⟩
  obtain ⟨q1, q2⟩ := hl i σ H hi p
  by_cases hlt : i < xs.length
  · have hlt2 : i < ys.length := by omega
    refine .inr ⟨⟨xs, ys, xs[i], ys[i], q1, q2, by simp [hlt], by simp [hlt2]⟩, Pv (i + 1), fun σ' H' p' => ⟨xs.length - (i + 1), by omega, rfl, hlt, p'⟩, fun x H' y => ?_⟩
    obtain ⟨b, u, v, hb, rfl, rfl, y1, y2⟩ := y
    exact hs i u v b σ H (y1 xs q1) (y2 ys q2) p hb
  · have e : i = xs.length := by omega
    subst e
    exact .inl ⟨⟨xs, ys, q1, q2, Nat.le_refl _⟩, hd σ H p⟩
end L3
namespace L3
open PySem PySem.Spec PyProof.Rows L2
theorem kPI {X : Cx} {K : PySem.W.Frag} {tg it : Expr} (f : PySem.W.Frag → TI) (h : PI X tg it (f X.K)) (e : X.K = K := by rfl) : PI X tg it (f K) := e ▸ h
theorem kPE {X : Cx} {K : PySem.W.Frag} {ex : Expr} (f : PySem.W.Frag → TE) (h : PE X ex (f X.K)) (e : X.K = K := by rfl) : PE X ex (f K) := e ▸ h
theorem kPG {X : Cx} {K : PySem.W.Frag} {tg : Expr} (f : PySem.W.Frag → TG) (h : PG X tg (f X.K)) (e : X.K = K := by rfl) : PG X tg (f K) := e ▸ h
theorem kCall {X : Cx} {K : PySem.W.Frag} {f : Value} (r : PySem.W.Frag → List V → Hp → VK → Prop) (h : CallR X f (r X.K)) (e : X.K = K := by rfl) : CallR X f (r K) := e ▸ h
def rIs (K : PySem.W.Frag) : List V → Hp → VK → Prop := fun xs H Q => ∃ x T t b, xs = [x, .ty T] ∧ TyOf K H x t ∧ PySem.W.kitOne K t (.type T) = some b ∧ Q (.bl b) H
def rIsD (K : PySem.W.Frag) : List V → Hp → VK → Prop := fun xs H Q => ∃ x d T, xs = [x, .ty T] ∧ Rep K H d x ∧ (T = "tuple" ∨ T = "int" ∨ T = "bool" ∨ T = "str" ∨ T = "list") ∧ Q (.bl (isT d T)) H
end L3
namespace My
open PySem PySem.Spec PyProof.Rows L2 L3 PySem.Challenge
open PySem.W (nsIn codeIn keepIn fnOf mg_of mg_none_of findIn mroIn kitOne Frag)
def top (i : Nat) : Stmt := pw_earlyscribe_k33_whole_as_early_as_can_be.main.body.getD i (.Pass ⟨0, 0, 0, 0⟩)
end My
lay_quick PySem.Challenge.pw_earlyscribe_k33_whole_as_early_as_can_be
namespace My
open PySem PySem.W PyProof.Rows L2 L3 PySem.Challenge
abbrev fob (x : Str) (st : Stmt) (oc : Value) (od : Option Addr) (kV dc pm : Value) (an : Option Addr) (cd ct : Value) (sl : Array (Option Value)) : Obj := ⟨oc, od, .func (fnOf x x (defArgs st) (defBody st) (defScope st) .none kV dc pm an cd ct), sl⟩
abbrev de (P : Params) (x : Str) (t : Tok) (v : Value) : DictEntry := ⟨PySem.PyData.keyHash P x, .str x t, v⟩
abbrev cob (x : Str) (a b c : Tok) (l n : Int) (r r2 v1 v2 v3 v4 : Value) (n6 : Int) (c2 : Tok) : Obj := ⟨.type "code", none, .fields #[.str x a, .str x b, .str "/claim/cut.py" c, .int l 0, .int n 0, .int 0 0, .int 0 0, .int 3 0, r, .bool true, .int 181 0, r2, v1, v2, v3, v4, .int n6 0, .int l 0, .str "/claim/cut.py" c2], #[]⟩
noncomputable def ko2 (P : Params) : Obj := ⟨.none, none, (.dict #[] 0), #[]⟩
noncomputable def ko3 (P : Params) : Obj := ⟨(.type "dict"), none, (.dict #[de P "__name__" 165 (.str "law_earlyscribe_k33_whole_as_early_as_can_be" 414), de P "__doc__" 166 .none, de P "__package__" 167 .none, de P "__loader__" 168 (.builtin "__main__.__loader__#opaque"), de P "__spec__" 169 .none, de P "__annotations__" 170 (.ref 6), de P "__builtins__" 171 (.ref 4), de P "__file__" 173 (.str "/claim/cut.py" 172), de P "__cached__" 174 .none, de P "ScribeError" 206 (.ref 24), de P "NotPlain" 222 (.ref 37), de P "SIGNS" 226 (.int 0 225), de P "ROOMS" 228 (.int 1 227), de P "BEGINS" 230 (.int 2 229), de P "STEPS" 232 (.int 3 231), de P "ENDS" 234 (.int 4 233), de P "all_unlike" 241 (.ref 46), de P "is_plain" 247 (.ref 51), de P "refuse_choices" 254 (.ref 58), de P "OUT_OF" 258 (.int 0 257), de P "INTO" 260 (.int 3 259), de P "places_at" 271 (.ref 65), de P "traces_from" 289 (.ref 72), de P "traces_from_begins" 296 (.ref 79), de P "traces_to_ends" 303 (.ref 86), de P "useful_rooms" 309 (.ref 91), de P "marks_kept" 315 (.ref 96), de P "steps_kept" 321 (.ref 101), de P "trimmed_of" 333 (.ref 108), de P "shared_length" 346 (.ref 115), de P "words_to_ends" 359 (.ref 122), de P "steps_by_goal" 368 (.ref 129), de P "shorten_by" 382 (.ref 136), de P "heads_by_room" 392 (.ref 143), de P "heads_of" 398 (.ref 148), de P "earlier_step" 407 (.ref 155), de P "earliest_of" 413 (.ref 160), de P "_law_cell_at" 423 (.ref 167), de P "_law_whole" 430 (.ref 174), de P "_law_mixed" 439 (.ref 181), de P "_law_word" 450 (.ref 188), de P "_law_signs" 456 (.ref 193), de P "_law_rest" 467 (.ref 200), de P "_law_plain" 473 (.ref 205), de P "_law_is_scribe" 484 (.ref 212), de P "_law_run" 490 (.ref 217), de P "_law_text" 503 (.ref 224), de P "_law_follow" 509 (.ref 229), de P "_law_rooms_good" 515 (.ref 234), de P "_law_firsts" 521 (.ref 239), de P "law" 532 (.ref 246)] 51), #[]⟩
noncomputable def ko23 (P : Params) : Obj := ⟨(.type "dict"), none, (.dict #[de P "__module__" 196 (.str "earlyscribe.errors" 187), de P "__firstlineno__" 200 (.int 2 199), de P "__static_attributes__" 201 (.ref 22), de P "__weakref__" 203 (.ref 25), de P "__doc__" 204 .none] 3), #[]⟩
noncomputable def ko24 (P : Params) : Obj := ⟨(.type "type"), none, (.cls ⟨"ScribeError", [(.type "ValueError")], [(.ref 24), (.type "ValueError"), (.type "Exception"), (.type "BaseException"), (.type "object")], 23, "ScribeError", true, [], [(.ref 37)], false, none, false⟩), #[(some (.ref 15)), none, (some (.str "ScribeError" 189)), (some (.str "ScribeError" 197)), (some (.builtin "ValueError.__new__")), (some (.bool true))]⟩
noncomputable def ko36 (P : Params) : Obj := ⟨(.type "dict"), none, (.dict #[de P "__module__" 214 (.str "earlyscribe.errors" 187), de P "__firstlineno__" 218 (.int 4 217), de P "__static_attributes__" 219 (.ref 35), de P "__doc__" 220 .none] 2), #[]⟩
noncomputable def ko37 (P : Params) : Obj := ⟨(.type "type"), none, (.cls ⟨"NotPlain", [(.ref 24)], [(.ref 37), (.ref 24), (.type "ValueError"), (.type "Exception"), (.type "BaseException"), (.type "object")], 36, "NotPlain", true, [], [], false, none, false⟩), #[(some (.ref 28)), none, (some (.str "NotPlain" 207)), (some (.str "NotPlain" 215)), (some (.builtin "ValueError.__new__")), (some (.bool true))]⟩
noncomputable def ko45 (P : Params) : Obj := cob "all_unlike" 235 236 237 12 1 (.ref 40) (.ref 41) .none (.ref 42) (.ref 43) (.ref 44) 239 240
noncomputable def ko46 (P : Params) : Obj := fob "all_unlike" (top 9) (.type "function") none .none .none (.str "earlyscribe.scribes" 223) none (.ref 45) .none #[]
noncomputable def ko50 (P : Params) : Obj := cob "is_plain" 242 243 244 14 1 (.ref 47) (.ref 48) .none .none .none (.ref 49) 245 246
noncomputable def ko51 (P : Params) : Obj := fob "is_plain" (top 10) (.type "function") none .none .none (.str "earlyscribe.scribes" 223) none (.ref 50) .none #[]
noncomputable def ko57 (P : Params) : Obj := cob "refuse_choices" 248 249 250 20 1 (.ref 52) (.ref 53) .none (.ref 54) (.ref 55) (.ref 56) 252 253
noncomputable def ko58 (P : Params) : Obj := fob "refuse_choices" (top 11) (.type "function") none .none .none (.str "earlyscribe.scribes" 223) none (.ref 57) .none #[]
noncomputable def ko64 (P : Params) : Obj := cob "places_at" 261 262 263 26 2 (.ref 59) (.ref 60) .none (.ref 61) (.ref 62) (.ref 63) 269 270
noncomputable def ko65 (P : Params) : Obj := fob "places_at" (top 15) (.type "function") none .none .none (.str "earlyscribe.trims" 255) none (.ref 64) .none #[]
noncomputable def ko71 (P : Params) : Obj := cob "traces_from" 272 273 274 31 4 (.ref 66) (.ref 67) .none (.ref 68) (.ref 69) (.ref 70) 287 288
noncomputable def ko72 (P : Params) : Obj := fob "traces_from" (top 16) (.type "function") none .none .none (.str "earlyscribe.trims" 255) none (.ref 71) .none #[]
noncomputable def ko78 (P : Params) : Obj := cob "traces_from_begins" 290 291 292 48 1 (.ref 73) (.ref 74) .none (.ref 75) (.ref 76) (.ref 77) 294 295
noncomputable def ko79 (P : Params) : Obj := fob "traces_from_begins" (top 17) (.type "function") none .none .none (.str "earlyscribe.trims" 255) none (.ref 78) .none #[]
noncomputable def ko85 (P : Params) : Obj := cob "traces_to_ends" 297 298 299 50 1 (.ref 80) (.ref 81) .none (.ref 82) (.ref 83) (.ref 84) 301 302
noncomputable def ko86 (P : Params) : Obj := fob "traces_to_ends" (top 18) (.type "function") none .none .none (.str "earlyscribe.trims" 255) none (.ref 85) .none #[]
noncomputable def ko90 (P : Params) : Obj := cob "useful_rooms" 304 305 306 52 1 (.ref 87) (.ref 88) .none .none .none (.ref 89) 307 308
noncomputable def ko91 (P : Params) : Obj := fob "useful_rooms" (top 19) (.type "function") none .none .none (.str "earlyscribe.trims" 255) none (.ref 90) .none #[]
noncomputable def ko95 (P : Params) : Obj := cob "marks_kept" 310 311 312 55 2 (.ref 92) (.ref 93) .none .none .none (.ref 94) 313 314
noncomputable def ko96 (P : Params) : Obj := fob "marks_kept" (top 20) (.type "function") none .none .none (.str "earlyscribe.trims" 255) none (.ref 95) .none #[]
noncomputable def ko100 (P : Params) : Obj := cob "steps_kept" 316 317 318 57 2 (.ref 97) (.ref 98) .none .none .none (.ref 99) 319 320
noncomputable def ko101 (P : Params) : Obj := fob "steps_kept" (top 21) (.type "function") none .none .none (.str "earlyscribe.trims" 255) none (.ref 100) .none #[]
noncomputable def ko107 (P : Params) : Obj := cob "trimmed_of" 322 323 324 60 1 (.ref 102) (.ref 103) .none (.ref 104) (.ref 105) (.ref 106) 331 332
noncomputable def ko108 (P : Params) : Obj := fob "trimmed_of" (top 22) (.type "function") none .none .none (.str "earlyscribe.trims" 255) none (.ref 107) .none #[]
noncomputable def ko114 (P : Params) : Obj := cob "shared_length" 336 337 338 69 2 (.ref 109) (.ref 110) .none (.ref 111) (.ref 112) (.ref 113) 344 345
noncomputable def ko115 (P : Params) : Obj := fob "shared_length" (top 24) (.type "function") none .none .none (.str "earlyscribe.words" 334) none (.ref 114) .none #[]
noncomputable def ko121 (P : Params) : Obj := cob "words_to_ends" 349 350 351 80 1 (.ref 116) (.ref 117) .none (.ref 118) (.ref 119) (.ref 120) 357 358
noncomputable def ko122 (P : Params) : Obj := fob "words_to_ends" (top 26) (.type "function") none .none .none (.str "earlyscribe.early" 347) none (.ref 121) .none #[]
noncomputable def ko128 (P : Params) : Obj := cob "steps_by_goal" 360 361 362 89 1 (.ref 123) (.ref 124) .none (.ref 125) (.ref 126) (.ref 127) 366 367
noncomputable def ko129 (P : Params) : Obj := fob "steps_by_goal" (top 27) (.type "function") none .none .none (.str "earlyscribe.early" 347) none (.ref 128) .none #[]
noncomputable def ko135 (P : Params) : Obj := cob "shorten_by" 369 370 371 94 3 (.ref 130) (.ref 131) .none (.ref 132) (.ref 133) (.ref 134) 380 381
noncomputable def ko136 (P : Params) : Obj := fob "shorten_by" (top 28) (.type "function") none .none .none (.str "earlyscribe.early" 347) none (.ref 135) .none #[]
noncomputable def ko142 (P : Params) : Obj := cob "heads_by_room" 383 384 385 104 1 (.ref 137) (.ref 138) .none (.ref 139) (.ref 140) (.ref 141) 390 391
noncomputable def ko143 (P : Params) : Obj := fob "heads_by_room" (top 29) (.type "function") none .none .none (.str "earlyscribe.early" 347) none (.ref 142) .none #[]
noncomputable def ko147 (P : Params) : Obj := cob "heads_of" 393 394 395 111 1 (.ref 144) (.ref 145) .none .none .none (.ref 146) 396 397
noncomputable def ko148 (P : Params) : Obj := fob "heads_of" (top 30) (.type "function") none .none .none (.str "earlyscribe.early" 347) none (.ref 147) .none #[]
noncomputable def ko154 (P : Params) : Obj := cob "earlier_step" 399 400 401 115 2 (.ref 149) (.ref 150) .none (.ref 151) (.ref 152) (.ref 153) 405 406
noncomputable def ko155 (P : Params) : Obj := fob "earlier_step" (top 31) (.type "function") none .none .none (.str "earlyscribe.early" 347) none (.ref 154) .none #[]
noncomputable def ko159 (P : Params) : Obj := cob "earliest_of" 408 409 410 118 1 (.ref 156) (.ref 157) .none .none .none (.ref 158) 411 412
noncomputable def ko160 (P : Params) : Obj := fob "earliest_of" (top 32) (.type "function") none .none .none (.str "earlyscribe.early" 347) none (.ref 159) .none #[]
noncomputable def ko166 (P : Params) : Obj := cob "_law_cell_at" 416 417 418 127 2 (.ref 161) (.ref 162) .none (.ref 163) (.ref 164) (.ref 165) 421 422
noncomputable def ko167 (P : Params) : Obj := fob "_law_cell_at" (top 34) (.type "function") none .none .none (.str "law_earlyscribe_k33_whole_as_early_as_can_be" 414) none (.ref 166) .none #[]
noncomputable def ko173 (P : Params) : Obj := cob "_law_whole" 424 425 426 131 1 (.ref 168) (.ref 169) .none (.ref 170) (.ref 171) (.ref 172) 428 429
noncomputable def ko174 (P : Params) : Obj := fob "_law_whole" (top 35) (.type "function") none .none .none (.str "law_earlyscribe_k33_whole_as_early_as_can_be" 414) none (.ref 173) .none #[]
noncomputable def ko180 (P : Params) : Obj := cob "_law_mixed" 431 432 433 133 2 (.ref 175) (.ref 176) .none (.ref 177) (.ref 178) (.ref 179) 437 438
noncomputable def ko181 (P : Params) : Obj := fob "_law_mixed" (top 36) (.type "function") none .none .none (.str "law_earlyscribe_k33_whole_as_early_as_can_be" 414) none (.ref 180) .none #[]
noncomputable def ko187 (P : Params) : Obj := cob "_law_word" 440 441 442 137 1 (.ref 182) (.ref 183) .none (.ref 184) (.ref 185) (.ref 186) 448 449
noncomputable def ko188 (P : Params) : Obj := fob "_law_word" (top 37) (.type "function") none .none .none (.str "law_earlyscribe_k33_whole_as_early_as_can_be" 414) none (.ref 187) .none #[]
noncomputable def ko192 (P : Params) : Obj := cob "_law_signs" 451 452 453 149 1 (.ref 189) (.ref 190) .none .none .none (.ref 191) 454 455
noncomputable def ko193 (P : Params) : Obj := fob "_law_signs" (top 38) (.type "function") none .none .none (.str "law_earlyscribe_k33_whole_as_early_as_can_be" 414) none (.ref 192) .none #[]
noncomputable def ko199 (P : Params) : Obj := cob "_law_rest" 457 458 459 153 3 (.ref 194) (.ref 195) .none (.ref 196) (.ref 197) (.ref 198) 465 466
noncomputable def ko200 (P : Params) : Obj := fob "_law_rest" (top 39) (.type "function") none .none .none (.str "law_earlyscribe_k33_whole_as_early_as_can_be" 414) none (.ref 199) .none #[]
noncomputable def ko204 (P : Params) : Obj := cob "_law_plain" 468 469 470 159 3 (.ref 201) (.ref 202) .none .none .none (.ref 203) 471 472
noncomputable def ko205 (P : Params) : Obj := fob "_law_plain" (top 40) (.type "function") none .none .none (.str "law_earlyscribe_k33_whole_as_early_as_can_be" 414) none (.ref 204) .none #[]
noncomputable def ko211 (P : Params) : Obj := cob "_law_is_scribe" 474 475 476 180 1 (.ref 206) (.ref 207) .none (.ref 208) (.ref 209) (.ref 210) 482 483
noncomputable def ko212 (P : Params) : Obj := fob "_law_is_scribe" (top 41) (.type "function") none .none .none (.str "law_earlyscribe_k33_whole_as_early_as_can_be" 414) none (.ref 211) .none #[]
noncomputable def ko216 (P : Params) : Obj := cob "_law_run" 485 486 487 193 2 (.ref 213) (.ref 214) .none .none .none (.ref 215) 488 489
noncomputable def ko217 (P : Params) : Obj := fob "_law_run" (top 42) (.type "function") none .none .none (.str "law_earlyscribe_k33_whole_as_early_as_can_be" 414) none (.ref 216) .none #[]
noncomputable def ko223 (P : Params) : Obj := cob "_law_text" 491 492 493 208 3 (.ref 218) (.ref 219) .none (.ref 220) (.ref 221) (.ref 222) 501 502
noncomputable def ko224 (P : Params) : Obj := fob "_law_text" (top 43) (.type "function") none .none .none (.str "law_earlyscribe_k33_whole_as_early_as_can_be" 414) none (.ref 223) .none #[]
noncomputable def ko228 (P : Params) : Obj := cob "_law_follow" 504 505 506 219 3 (.ref 225) (.ref 226) .none .none .none (.ref 227) 507 508
noncomputable def ko229 (P : Params) : Obj := fob "_law_follow" (top 44) (.type "function") none .none .none (.str "law_earlyscribe_k33_whole_as_early_as_can_be" 414) none (.ref 228) .none #[]
noncomputable def ko233 (P : Params) : Obj := cob "_law_rooms_good" 510 511 512 232 1 (.ref 230) (.ref 231) .none .none .none (.ref 232) 513 514
noncomputable def ko234 (P : Params) : Obj := fob "_law_rooms_good" (top 45) (.type "function") none .none .none (.str "law_earlyscribe_k33_whole_as_early_as_can_be" 414) none (.ref 233) .none #[]
noncomputable def ko238 (P : Params) : Obj := cob "_law_firsts" 516 517 518 242 1 (.ref 235) (.ref 236) .none .none .none (.ref 237) 519 520
noncomputable def ko239 (P : Params) : Obj := fob "_law_firsts" (top 46) (.type "function") none .none .none (.str "law_earlyscribe_k33_whole_as_early_as_can_be" 414) none (.ref 238) .none #[]
noncomputable def ko245 (P : Params) : Obj := cob "law" 522 523 524 259 1 (.ref 240) (.ref 241) .none (.ref 242) (.ref 243) (.ref 244) 530 531
noncomputable def ko246 (P : Params) : Obj := fob "law" (top 47) (.type "function") none .none .none (.str "law_earlyscribe_k33_whole_as_early_as_can_be" 414) none (.ref 245) .none #[]
noncomputable def K (P : Params) : Frag := (nat_lit 2, ko2 P) :: (nat_lit 3, ko3 P) :: (nat_lit 23, ko23 P) :: (nat_lit 24, ko24 P) :: (nat_lit 36, ko36 P) :: (nat_lit 37, ko37 P) :: (nat_lit 45, ko45 P) :: (nat_lit 46, ko46 P) :: (nat_lit 50, ko50 P) :: (nat_lit 51, ko51 P) :: (nat_lit 57, ko57 P) :: (nat_lit 58, ko58 P) :: (nat_lit 64, ko64 P) :: (nat_lit 65, ko65 P) :: (nat_lit 71, ko71 P) :: (nat_lit 72, ko72 P) :: (nat_lit 78, ko78 P) :: (nat_lit 79, ko79 P) :: (nat_lit 85, ko85 P) :: (nat_lit 86, ko86 P) :: (nat_lit 90, ko90 P) :: (nat_lit 91, ko91 P) :: (nat_lit 95, ko95 P) :: (nat_lit 96, ko96 P) :: (nat_lit 100, ko100 P) :: (nat_lit 101, ko101 P) :: (nat_lit 107, ko107 P) :: (nat_lit 108, ko108 P) :: (nat_lit 114, ko114 P) :: (nat_lit 115, ko115 P) :: (nat_lit 121, ko121 P) :: (nat_lit 122, ko122 P) :: (nat_lit 128, ko128 P) :: (nat_lit 129, ko129 P) :: (nat_lit 135, ko135 P) :: (nat_lit 136, ko136 P) :: (nat_lit 142, ko142 P) :: (nat_lit 143, ko143 P) :: (nat_lit 147, ko147 P) :: (nat_lit 148, ko148 P) :: (nat_lit 154, ko154 P) :: (nat_lit 155, ko155 P) :: (nat_lit 159, ko159 P) :: (nat_lit 160, ko160 P) :: (nat_lit 166, ko166 P) :: (nat_lit 167, ko167 P) :: (nat_lit 173, ko173 P) :: (nat_lit 174, ko174 P) :: (nat_lit 180, ko180 P) :: (nat_lit 181, ko181 P) :: (nat_lit 187, ko187 P) :: (nat_lit 188, ko188 P) :: (nat_lit 192, ko192 P) :: (nat_lit 193, ko193 P) :: (nat_lit 199, ko199 P) :: (nat_lit 200, ko200 P) :: (nat_lit 204, ko204 P) :: (nat_lit 205, ko205 P) :: (nat_lit 211, ko211 P) :: (nat_lit 212, ko212 P) :: (nat_lit 216, ko216 P) :: (nat_lit 217, ko217 P) :: (nat_lit 223, ko223 P) :: (nat_lit 224, ko224 P) :: (nat_lit 228, ko228 P) :: (nat_lit 229, ko229 P) :: (nat_lit 233, ko233 P) :: (nat_lit 234, ko234 P) :: (nat_lit 238, ko238 P) :: (nat_lit 239, ko239 P) :: (nat_lit 245, ko245 P) :: (nat_lit 246, ko246 P) :: []
def as : List Addr := [2, 3, 23, 24, 36, 37, 45, 46, 50, 51, 57, 58, 64, 65, 71, 72, 78, 79, 85, 86, 90, 91, 95, 96, 100, 101, 107, 108, 114, 115, 121, 122, 128, 129, 135, 136, 142, 143, 147, 148, 154, 155, 159, 160, 166, 167, 173, 174, 180, 181, 187, 188, 192, 193, 199, 200, 204, 205, 211, 212, 216, 217, 223, 224, 228, 229, 233, 234, 238, 239, 245, 246]
end My
lay_quick My.K
namespace My
open PySem PySem.W PyProof.Rows L2 L3 PySem.Challenge
noncomputable def q : Program := view pw_earlyscribe_k33_whole_as_early_as_can_be [1, 2, 4, 5, 6, 7, 8, 9, 10, 11, 13, 14, 15, 16, 17, 18, 19, 20, 21, 22, 24, 26, 27, 28, 29, 30, 31, 32, 34, 35, 36, 37, 38, 39, 40, 41, 42, 43, 44, 45, 46, 47]
noncomputable def env : Env := { scope := pw_earlyscribe_k33_whole_as_early_as_can_be.main.scope, locals := mainNs, globals := mainNs, cells := [], code := (.ref 13), frame := some 14 }
theorem size (w : World) : ((boot_heap w.params).isNs mainGlobals && (Array.mk ([] : List GenState)).size == 0, (boot_heap w.params).objs.size, (boot_heap w.params).nsMap mainGlobals "__annotations__") = (true, 11, (some (.ref 6))) := by
  rw [PySem.W.Fast.te8920871248978507458]
  kernel_rfl
theorem hl : LeftO pw_earlyscribe_k33_whole_as_early_as_can_be q [] (fun s => xlAt q [] s && recOk [] s) (fun s => as.map s.heap.get?) (fun w => (K w.params).map fun x => some x.2) 3134 := by
  refine Hd.left_of (k1 := 12) (k2 := 1) (k3 := 1505) (k4 := 2) (n₁ := 15) (m₀ := 11) (ann := (some (.ref 6))) (env := env) (fp := ⟨0, 0, 0, 0⟩) (p1 := ⟨0, 0, 0, 0⟩) (p2 := ⟨0, 0, 0, 0⟩) (p3 := ⟨259, 0, 270, 15⟩) rfl rfl (fun _ => rfl) size rfl ?_
  intro w
  unfold Hd.look q env
  rw [PySem.W.Fast.te15667345088766844465, PySem.W.Fast.te14374325043358763698, PySem.W.Fast.te10110043849684766642, PySem.W.Fast.te14082659384304107361, PySem.W.Fast.te14364793385576792824, PySem.W.Fast.te4187177175401517315, PySem.W.Fast.te5923862056798008813, PySem.W.Fast.te11892475500146522536, PySem.W.Fast.te12754154230045568370, PySem.W.Fast.te7265826138483797483]
  kernel_rfl
end My
namespace My
open PySem PySem.Spec PyProof.Rows L2 L3 PySem.Challenge
open PySem.W (nsIn codeIn keepIn fnOf mg_of mg_none_of findIn mroIn kitOne Frag)
abbrev s_all_unlike : Stmt := top 9
abbrev s_is_plain : Stmt := top 10
abbrev s_refuse_choices : Stmt := top 11
abbrev s_places_at : Stmt := top 15
abbrev s_traces_from : Stmt := top 16
abbrev s_traces_from_begins : Stmt := top 17
abbrev s_traces_to_ends : Stmt := top 18
abbrev s_useful_rooms : Stmt := top 19
abbrev s_marks_kept : Stmt := top 20
abbrev s_steps_kept : Stmt := top 21
abbrev s_trimmed_of : Stmt := top 22
abbrev s_shared_length : Stmt := top 24
abbrev s_words_to_ends : Stmt := top 26
abbrev s_steps_by_goal : Stmt := top 27
abbrev s_shorten_by : Stmt := top 28
abbrev s_heads_by_room : Stmt := top 29
abbrev s_heads_of : Stmt := top 30
abbrev s_earlier_step : Stmt := top 31
abbrev s_earliest_of : Stmt := top 32
abbrev s_law_cell_at : Stmt := top 34
abbrev s_law_whole : Stmt := top 35
abbrev s_law_mixed : Stmt := top 36
abbrev s_law_word : Stmt := top 37
abbrev s_law_signs : Stmt := top 38
abbrev s_law_rest : Stmt := top 39
abbrev s_law_plain : Stmt := top 40
abbrev s_law_is_scribe : Stmt := top 41
abbrev s_law_run : Stmt := top 42
abbrev s_law_text : Stmt := top 43
abbrev s_law_follow : Stmt := top 44
abbrev s_law_rooms_good : Stmt := top 45
abbrev s_law_firsts : Stmt := top 46
abbrev s_law : Stmt := top 47
structure Bi (mg : Str → Option Value) : Prop where
  bool : mg "bool" = none
  enumerate : mg "enumerate" = none
  int : mg "int" = none
  isinstance : mg "isinstance" = none
  len : mg "len" = none
  list : mg "list" = none
  max : mg "max" = none
  min : mg "min" = none
  range : mg "range" = none
  set : mg "set" = none
  sorted : mg "sorted" = none
  str : mg "str" = none
  tuple : mg "tuple" = none
  zip : mg "zip" = none
  BEGINS : ∃ t, mg "BEGINS" = some (.int 2 t)
  ENDS : ∃ t, mg "ENDS" = some (.int 4 t)
  INTO : ∃ t, mg "INTO" = some (.int 3 t)
  OUT_OF : ∃ t, mg "OUT_OF" = some (.int 0 t)
  ROOMS : ∃ t, mg "ROOMS" = some (.int 1 t)
  SIGNS : ∃ t, mg "SIGNS" = some (.int 0 t)
  STEPS : ∃ t, mg "STEPS" = some (.int 3 t)
structure Xb (K : Frag) (mg : Str → Option Value) (c_NotPlain : Addr) : Prop where
  nm_NotPlain : mg "NotPlain" = some (.ref c_NotPlain)
  own_NotPlain : OwnX K mg "NotPlain" c_NotPlain
  xc_NotPlain : XCls K c_NotPlain
local macro_rules | `(tactic| walk_at "side") => `(tactic| first | exact pz | exact ⟨pz, pz⟩ | exact .inr ⟨by decide, by decide⟩ | exact ⟨by omega, by omega⟩ | exact .inl ⟨by omega, by omega⟩ | exact .inr ⟨by omega, by omega⟩ | (show (0 : Int) < _; omega) | exact szl (by simp) | exact szl (by omega))
local macro_rules | `(tactic| walk_at "r") => `(tactic| first | refine ⟨_, rfl, ?_⟩ | refine ⟨_, _, rfl, rfl, ?_⟩ | refine ⟨rfl, ?_⟩ | refine ⟨by walk_at "side", ?_⟩)
local macro_rules | `(tactic| walk_at "rd") => `(tactic| repeat walk_at "r")
def isNum (lo hi : Int) (v : V) : Prop := ∃ n : Int, v = .int n ∧ lo ≤ n ∧ n ≤ hi
def spUnlike (K : Frag) : Sp := fun vs H Q _ => ∃ p, vs = [.ref p] ∧ ((∃ ys ks, SqL K H p ys ∧ Paired (KeyV K H) ks ys ∧ ks.length ≤ 999 ∧ ∀ H', Same H H' → Q (.bl (decide ks.Nodup)) H') ∨
  ∃ ks : List Key, SqL K H p (ks.map kV) ∧ ks.length ≤ 4000 ∧ ∀ H', Same H H' → Q (.bl (decide ks.Nodup)) H')
def outs (s : Scr) : List (List Key) := s.steps.map fun t => [Sum.inl t.1, Sum.inr t.2.1]
def lasts (s : Scr) : List Key := s.ends.map fun e => Sum.inl e.1
def plainB (s : Scr) : Bool := !decide (s.begins.length > 1) && decide (outs s).Nodup && decide (lasts s).Nodup
def spPlain (K : Frag) : Sp := fun vs H Q _ => ∃ v s pb ps pe, vs = [v] ∧ ScV K H s v pb ps pe ∧ s.steps.length ≤ 999 ∧ s.ends.length ≤ 999 ∧ ∀ H', Same H H' → Q (.bl (plainB s)) H'
theorem szl' {n : Nat} (h : n ≤ 99999) : n < sizeLine := Nat.lt_of_lt_of_le (Nat.lt_succ_of_le h) (szl (by omega))
theorem KeyV.mono {K : Frag} {H H' : Hp} {m : List Key} {v : V} (g : Grow H H') : KeyV K H m v → KeyV K H' m v := fun ⟨b, e, h⟩ => ⟨b, e, g.seqT h⟩
theorem nd_int {n m : Nat} : decide (V.int (n : Int) = V.int (m : Int)) = decide (n = m) := by
  by_cases h : n = m
  · simp [h]
  · rw [decide_eq_false h, decide_eq_false]; intro e; injection e with e; exact h (by omega)
theorem nodup_dec {κ : Type} [DecidableEq κ] (ks : List κ) : decide (ndist ks.reverse = ks.length) = decide ks.Nodup := by
  have h := ndist_nodup ks.reverse
  rw [List.length_reverse, (List.reverse_perm ks).nodup_iff] at h
  exact decide_eq_decide.mpr h
def Wd (x : Str) : Prop := x.length ≤ 40 ∧ ∀ c ∈ cl x, 97 ≤ c ∧ c ≤ 122
structure OkS (pl : Bool) (s : Scr) (n : Nat) : Prop where
  lb : s.begins.length ≤ n
  ls : s.steps.length ≤ n
  le : s.ends.length ≤ n
  mb : ∀ m ∈ s.begins, 0 ≤ m.1 ∧ m.1 < s.rooms ∧ Wd m.2
  ms : ∀ t ∈ s.steps, 0 ≤ t.1 ∧ t.1 < s.rooms ∧ (∃ c ∈ cl s.signs, t.2.1 = ⟨#[c]⟩) ∧ Wd t.2.2.1 ∧ 0 ≤ t.2.2.2 ∧ t.2.2.2 < s.rooms
  me : ∀ m ∈ s.ends, 0 ≤ m.1 ∧ m.1 < s.rooms ∧ Wd m.2
  nb : s.begins.Nodup
  ns : s.steps.Nodup
  ne : s.ends.Nodup
  pb : pl = true → s.begins.length ≤ 1
  po : pl = true → (s.steps.map fun t => (t.1, t.2.1)).Nodup
  pe : pl = true → (s.ends.map (·.1)).Nodup
theorem nodup_snoc {α : Type} {xs : List α} {x : α} (h : xs.Nodup) (hn : x ∉ xs) : (xs ++ [x]).Nodup := by
  rw [List.nodup_append]
  refine ⟨h, by simp, fun a ha b hb => ?_⟩
  rw [List.mem_singleton] at hb
  subst hb
  intro e; subst e; exact hn ha
theorem same_updN {H0 H : Hp} {p : Addr} {o : HO} (g : Same H0 H) (h : H0 p = none) : Same H0 (upd H p o) := fun b u q => by rw [upd_ne (ne_of_none q h)]; exact g b u q
structure Apart (H0 : Hp) (pb ps pe : Addr) : Prop where
  nb : H0 pb = none
  ns : H0 ps = none
  ne : H0 pe = none
  bs : pb ≠ ps
  be : pb ≠ pe
  se : ps ≠ pe
def cellAt (ns : List Int) (k : Int) : Int := if k < ns.length then (ns[k.toNat]?).getD 0 else 0
def spCell (K : Frag) : Sp := fun vs H Q _ => ∃ (a : Addr) (ns : List Int) (k : Int), vs = [.ref a, .int k] ∧ SqL K H a (ns.map V.int) ∧ 0 ≤ k ∧ Q (.int (cellAt ns k)) H
def spWord : Sp := fun vs H Q _ => ∃ c : Int, vs = [.int c] ∧ ∀ (x : Str) (H' : Hp), Wd x → Same H H' → Q (.str x) H'
def NewS (K : Frag) (H H' : Hp) (pl : Bool) (n : Nat) (s : Scr) (v : V) (pb ps pe : Addr) : Prop := Same H H' ∧ ScV K H' s v pb ps pe ∧ OkS pl s n ∧ 0 ≤ s.rooms ∧ s.rooms ≤ 14 ∧ 1 ≤ s.signs.length ∧ s.signs.length ≤ 5 ∧ (cl s.signs).Nodup ∧ (∀ c ∈ cl s.signs, 97 ≤ c ∧ c ≤ 122)
def ScN (K : Frag) (H : Hp) (s : Scr) (v : V) (pb ps pe : Addr) : Prop := ∃ a xb xs xe, v = .ref a ∧ SqT K H a [.str s.signs, .int s.rooms, .ref pb, .ref ps, .ref pe] ∧ H pb = some (.lst xb) ∧ H ps = some (.lst xs) ∧ H pe = some (.lst xe) ∧
  Paired (MkV K H) s.begins xb ∧ Paired (StV K H) s.steps xs ∧ Paired (MkV K H) s.ends xe
theorem ScN.v {K : Frag} {H : Hp} {s : Scr} {v : V} {pb ps pe : Addr} : ScN K H s v pb ps pe → ScV K H s v pb ps pe
  | ⟨a, xb, xs, xe, e, h1, h2, h3, h4, h5, h6, h7⟩ => ⟨a, xb, xs, xe, e, h1, SqL.of h2, SqL.of h3, SqL.of h4, h5, h6, h7⟩
theorem one_len (c : Nat) : (⟨#[c]⟩ : Str).length = 1 := rfl
theorem len_app (a b : Str) : (a ++ b).length = a.length + b.length := by
  rw [← cl_length, cl_append, List.length_append, cl_length, cl_length]
theorem cl_nil : ∀ c ∈ cl ("" : Str), 97 ≤ c ∧ c ≤ 122 := by
  intro c hc
  have e : cl ("" : Str) = [] := by decide +kernel
  rw [e] at hc; cases hc
theorem cl_one (c : Nat) : cl ⟨#[c]⟩ = [c] := rfl
theorem iteB {b : Bool} {A B : Prop} (h1 : b = true → A) (h2 : b = false → B) : if b = true then A else B := by
  cases b
  · exact iteF (h2 rfl)
  · exact iteT (h1 rfl)
def SgnOk (g : Str) : Prop := 1 ≤ g.length ∧ g.length ≤ 5 ∧ (cl g).Nodup ∧ ∀ c ∈ cl g, 97 ≤ c ∧ c ≤ 122
theorem notIn_mk {K : Frag} {H : Hp} {E : List Mk} {xe : List V} {m : Mk} (h : Paired (MkV K H) E xe) : Reps K H (E.map dMk) xe := reps_of (f := dMk) (F := MkV K H) (fun _ _ h => MkV.rep h) h
theorem reps_st {K : Frag} {H : Hp} {E : List Stp} {xe : List V} (h : Paired (StV K H) E xe) : Reps K H (E.map dSt) xe := reps_of (f := dSt) (F := StV K H) (fun _ _ h => StV.rep h) h
theorem take_get {α : Type} {xs : List α} {i : Nat} {x : α} (h : xs[i]? = some x) : xs.take (i + 1) = xs.take i ++ [x] := by rw [List.take_add_one, h]; rfl
def inR (n : Nat) (i : Int) : Prop := 0 ≤ i ∧ i < n
instance (n : Nat) (i : Int) : Decidable (inR n i) := inferInstanceAs (Decidable (_ ∧ _))
def catS (ys : List Str) : Str := ys.foldl (· ++ ·) ""
theorem nil_app (x : Str) : ("" : Str) ++ x = x := str_ext (by rw [cl_append]; have e : cl ("" : Str) = [] := by decide +kernel
                                                               rw [e, List.nil_append])
theorem app_assoc (x y z : Str) : x ++ y ++ z = x ++ (y ++ z) := str_ext (by simp only [cl_append, List.append_assoc])
theorem join_cat (ys : List Str) : Txt.join "" ys = catS ys := by
  have go : ∀ (ys : List Str) (a : Array Nat), (⟨ys.foldl (fun acc p => acc ++ ("" : Str).cps ++ p.cps) a⟩ : Str) = ys.foldl (· ++ ·) ⟨a⟩ := by
    intro ys
    induction ys with
    | nil => intro a; rfl
    | cons y ys ih =>
      intro a
      rw [List.foldl_cons, List.foldl_cons, ih]
      have e : (⟨a ++ ("" : Str).cps ++ y.cps⟩ : Str) = ⟨a⟩ ++ y := str_ext (by
        show (a ++ ("" : Str).cps ++ y.cps).toList = cl (⟨a⟩ ++ y)
        rw [cl_append, Array.toList_append, Array.toList_append]
        have z : ("" : Str).cps.toList = [] := by decide +kernel
        rw [z, List.append_nil])
      rw [e]
  cases ys with
  | nil => rfl
  | cons y ys =>
    show (⟨ys.foldl (fun acc p => acc ++ ("" : Str).cps ++ p.cps) y.cps⟩ : Str) = _
    rw [go]
    unfold catS
    rw [List.foldl_cons, nil_app]
def GT (H H' : Hp) : Prop := ∀ b xs, Rd H b (.tup xs) → Rd H' b (.tup xs)
theorem GT.trans {H H' H'' : Hp} (a : GT H H') (b : GT H' H'') : GT H H'' := fun c xs h => b c xs (a c xs h)
theorem GT.of {H H' : Hp} (g : Same H H') : GT H H' := fun b xs h => by
  rcases h with h | ⟨o, h⟩
  · exact .inl (g _ _ h)
  · exact .inr ⟨o, g _ _ h⟩
theorem gt_upd {H : Hp} {p : Addr} {o : HO} (h : H p = some o) (n1 : ∀ xs, o ≠ .tup xs) (n2 : ∀ u xs, o ≠ .frz u (.tup xs)) (o' : HO) : GT H (upd H p o') := fun b xs q => by
  have hne : b ≠ p := by
    rintro rfl
    rcases q with q | ⟨u, q⟩
    · rw [h] at q; exact n1 xs (Option.some.inj q)
    · rw [h] at q; exact n2 u xs (Option.some.inj q)
  unfold Rd
  rw [upd_ne hne]
  exact q
theorem gt_lst {H : Hp} {p : Addr} {xs : List V} (h : H p = some (.lst xs)) (o' : HO) : GT H (upd H p o') := gt_upd h (fun _ z => nomatch z) (fun _ _ z => nomatch z) o'
theorem GT.seqT {K : Frag} {H H' : Hp} {a : Addr} {xs : List V} (g : GT H H') (h : SqT K H a xs) : SqT K H' a xs := by
  rcases h with h | h
  · exact .inl (g _ _ h)
  · exact .inr h
theorem StV.gt {K : Frag} {H H' : Hp} {m : Stp} {v : V} (g : GT H H') : StV K H m v → StV K H' m v := fun ⟨b, e, h⟩ => ⟨b, e, g.seqT h⟩
theorem stv_gt (K : Frag) (H H' : Hp) (t : Stp) (v : V) (g : GT H H') (h : StV K H t v) : StV K H' t v := StV.gt g h
structure Bk {κ α : Type} [DecidableEq κ] (R : Hp → α → V → Prop) (key : α → κ) (H0 H : Hp) (d : Addr) (ts : List α) (kvs : List (κ × V)) : Prop where
  there : ∀ k v, valV kvs k = some v → ∃ l ys, v = .ref l ∧ H0 l = none ∧ l ≠ d ∧ H l = some (.lst ys) ∧ Paired (R H) (ts.filter fun t => decide (key t = k)) ys ∧ 0 < ys.length
  nokey : ∀ k, valV kvs k = none → ts.filter (fun t => decide (key t = k)) = []
  inj : ∀ k k' l, valV kvs k = some (.ref l) → valV kvs k' = some (.ref l) → k = k'
  len : kvs.length ≤ ts.length
theorem filter_snoc {α : Type} (p : α → Bool) (xs : List α) (x : α) : (xs ++ [x]).filter p = xs.filter p ++ if p x = true then [x] else [] := by
  rw [List.filter_append]
  congr 1
  by_cases h : p x = true
  · rw [if_pos h, List.filter_cons_of_pos h]; rfl
  · rw [if_neg h, List.filter_cons_of_neg h]; rfl
section
variable {κ α : Type} [DecidableEq κ] {R : Hp → α → V → Prop} {key : α → κ} {H0 H : Hp} {d : Addr} {ts : List α} {kvs : List (κ × V)}
theorem Bk.nil : Bk R key H0 H d [] ([] : List (κ × V)) := ⟨fun k v h => (by cases h), fun _ _ => rfl, fun k k' l h => (by cases h), Nat.le_refl _⟩
theorem Bk.mono {H' : Hp} (mono : ∀ (H H' : Hp) (t : α) (v : V), GT H H' → R H t v → R H' t v) (b : Bk R key H0 H d ts kvs) (g : Same H H') : Bk R key H0 H' d ts kvs :=
  ⟨fun k v h => let ⟨l, ys, e, h1, h2, h3, h4, h5⟩ := b.there k v h; ⟨l, ys, e, h1, h2, g _ _ h3, paired_mono (fun _ _ => mono _ _ _ _ (GT.of g)) h4, h5⟩, b.nokey, b.inj, b.len⟩
theorem Bk.put (mono : ∀ (H H' : Hp) (t : α) (v : V), GT H H' → R H t v → R H' t v) (b : Bk R key H0 H d ts kvs) {t : α} {y : V} {l : Addr} {ys : List V} (hv : valV kvs (key t) = some (.ref l)) (hl : H l = some (.lst ys)) (hy : R H t y) :
    Bk R key H0 (upd H l (.lst (ys ++ [y]))) d (ts ++ [t]) kvs := by
  have gr := gt_lst hl (.lst (ys ++ [y]))
  refine ⟨fun k v h => ?_, fun k h => ?_, b.inj, by rw [List.length_append]; exact Nat.le_add_right_of_le b.len⟩
  · obtain ⟨l', ys', rfl, h1, h2, h3, h4, h5⟩ := b.there k v h
    rw [filter_snoc]
    by_cases hk : key t = k
    · subst hk
      rw [hv] at h; cases h
      rw [hl] at h3; cases h3
      rw [if_pos (by simp)]
      exact ⟨l, ys ++ [y], rfl, h1, h2, upd_same, paired_append (paired_mono (fun _ _ => mono _ _ _ _ gr) h4) (.cons (mono _ _ _ _ gr hy) .nil), by rw [List.length_append]; omega⟩
    · have hne : l' ≠ l := fun e => hk (b.inj _ _ l hv (e ▸ h))
      rw [if_neg (by simpa using hk), List.append_nil]
      exact ⟨l', ys', rfl, h1, h2, by rw [upd_ne hne]; exact h3, paired_mono (fun _ _ => mono _ _ _ _ gr) h4, h5⟩
  · rw [filter_snoc, b.nokey k h]
    by_cases hk : key t = k
    · subst hk; rw [hv] at h; cases h
    · rw [if_neg (by simpa using hk)]; rfl
theorem Bk.new (mono : ∀ (H H' : Hp) (t : α) (v : V), GT H H' → R H t v → R H' t v) (b : Bk R key H0 H d ts kvs) {t : α} {y : V} {p : Addr} {o od : HO} (hv : valV kvs (key t) = none) (hp0 : H0 p = none) (hpd : p ≠ d) (hd : H d = some od) (n1 : ∀ xs, od ≠ .tup xs) (n2 : ∀ u xs, od ≠ .frz u (.tup xs)) (hpn : ∀ k, valV kvs k ≠ some (.ref p)) (hp : H p = some (.lst [])) (hy : R H t y) :
    Bk R key H0 (upd (upd H d o) p (.lst [y])) d (ts ++ [t]) (putK kvs (key t) (.ref p)) := by
  have g1 := gt_upd hd n1 n2 o
  have hp1 : upd H d o p = some (.lst []) := by rw [upd_ne hpd]; exact hp
  have gr := g1.trans (gt_lst hp1 (.lst [y]))
  refine ⟨fun k v h => ?_, fun k h => ?_, fun k k' l h h' => ?_, ?_⟩
  · rw [valV_put] at h
    rw [filter_snoc]
    by_cases hk : k = key t
    · subst hk
      rw [if_pos rfl] at h; cases h
      rw [if_pos (by simp), b.nokey _ hv]
      exact ⟨p, [y], rfl, hp0, hpd, upd_same, .cons (mono _ _ _ _ gr hy) .nil, Nat.zero_lt_one⟩
    · rw [if_neg hk] at h
      obtain ⟨l', ys', rfl, h1, h2, h3, h4, h5⟩ := b.there k v h
      have hne : l' ≠ p := fun e => hpn k (e ▸ h)
      rw [if_neg (by simpa using fun e => hk (Eq.symm e)), List.append_nil]
      exact ⟨l', ys', rfl, h1, h2, by rw [upd_ne hne, upd_ne h2]; exact h3, paired_mono (fun _ _ => mono _ _ _ _ gr) h4, h5⟩
  · rw [valV_put] at h
    by_cases hk : k = key t
    · rw [if_pos hk] at h; cases h
    · rw [if_neg hk] at h
      rw [filter_snoc, b.nokey k h, if_neg (by simpa using fun e => hk (Eq.symm e))]; rfl
  · rw [valV_put] at h h'
    by_cases hk : k = key t
    · rw [if_pos hk] at h; cases h
      by_cases hk' : k' = key t
      · rw [hk, hk']
      · rw [if_neg hk'] at h'; exact absurd h' (hpn k')
    · rw [if_neg hk] at h
      by_cases hk' : k' = key t
      · rw [if_pos hk'] at h'; cases h'; exact absurd h (hpn k)
      · rw [if_neg hk'] at h'; exact b.inj k k' l h h'
  · have h1 := length_putK kvs (key t) (.ref p)
    have h2 := b.len
    rw [List.length_append, List.length_singleton]; omega
end
def mkKey (m : Mk) : Key := Sum.inl m.1
def optV : Option Str → V
  | none => .non
  | some x => .str x
def lastM (s : Scr) (c : Int × Str) : Option Str := match s.ends.filter (fun m => decide (mkKey m = Sum.inl c.1)) with
  | [] => none
  | m :: _ => some (c.2 ++ m.2)
def spChoices (K : Frag) (c : Addr) : Sp := fun vs H Q E => ∃ v s pb ps pe, vs = [v] ∧ ScV K H s v pb ps pe ∧ s.steps.length ≤ 999 ∧ s.ends.length ≤ 999 ∧ (plainB s = true → ∀ H', Same H H' → Q .non H') ∧ (plainB s = false → ∀ H', Same H H' → E (.ref c) none H')
def addM {α : Type} [DecidableEq α] (acc : List α) (m : α) : List α := if m ∈ acc then acc else acc ++ [m]
theorem put_keys {κ : Type} [DecidableEq κ] (kvs : List (κ × V)) (k : κ) (v : V) : (putK kvs k v).map (·.1) = addM (kvs.map (·.1)) k := by
  have hm : (kvs.any fun kv => decide (kv.1 = k)) = true ↔ k ∈ kvs.map (·.1) := by
    rw [List.any_eq_true, List.mem_map]
    exact ⟨fun ⟨x, h1, h2⟩ => ⟨x, h1, of_decide_eq_true h2⟩, fun ⟨x, h1, h2⟩ => ⟨x, h1, decide_eq_true h2⟩⟩
  unfold putK addM
  by_cases h : k ∈ kvs.map (·.1)
  · rw [if_pos (hm.mpr h), if_pos h, List.map_map]
    refine List.map_congr_left fun x _ => ?_
    show (if x.1 = k then _ else _ : κ × V).1 = x.1
    split
    · rename_i e; first | exact e.symm | rfl
    · rfl
  · rw [if_neg (fun z => h (hm.mp z)), if_neg h, List.map_append]; rfl
theorem add_map {α β : Type} [DecidableEq α] [DecidableEq β] {f : α → β} (inj : ∀ a b, f a = f b → a = b) (acc : List α) (m : α) : (addM acc m).map f = addM (acc.map f) (f m) := by
  have hm : f m ∈ acc.map f ↔ m ∈ acc := by
    rw [List.mem_map]
    exact ⟨fun ⟨x, h1, h2⟩ => inj _ _ h2 ▸ h1, fun h => ⟨m, h, rfl⟩⟩
  unfold addM
  by_cases h : m ∈ acc
  · rw [if_pos h, if_pos (hm.mpr h)]
  · rw [if_neg h, if_neg (fun z => h (hm.mp z)), List.map_append]; rfl
def sideOf (n : Int) (t : Stp) : Int := if n = 0 then t.1 else t.2.2.2
theorem side_at {n : Int} (h : n = 0 ∨ n = 3) (t : Stp) : atI [V.int t.1, V.str t.2.1, V.str t.2.2.1, V.int t.2.2.2] n = some (V.int (sideOf n t)) := by
  rcases h with rfl | rfl
  · exact atI_nat (j := 0) rfl
  · exact atI_nat (j := 3) rfl
def StL (K : Frag) (H : Hp) (a : Addr) (S : List Stp) : Prop := ∃ xs, SqL K H a xs ∧ Paired (StV K H) S xs
def keyP (n : Int) (S : List Stp) (q : Nat) : Key := Sum.inl ((S[q]?).elim 0 (sideOf n))
def qV (q : Nat) : V := .int (q : Int)
def isQ (_ : Hp) (q : Nat) (v : V) : Prop := v = .int (q : Int)
def PlD (n : Int) (S : List Stp) (H H' : Hp) (v : V) : Prop := ∃ d kvs, v = .ref d ∧ H d = none ∧ H' d = some (.dK kvs) ∧ Bk isQ (keyP n S) H H' d (List.range S.length) kvs
def spPlaces (K : Frag) : Sp := fun vs H Q _ => ∃ a S n, vs = [.ref a, .int n] ∧ StL K H a S ∧ S.length ≤ 999 ∧ (n = 0 ∨ n = 3) ∧ ∀ v H', Same H H' → PlD n S H H' v → Q v H'
theorem isq_gt (H H' : Hp) (q : Nat) (v : V) (_ : GT H H') (h : isQ H q v) : isQ H' q v := h
abbrev En := Int × Nat × Option Nat
def keysT (T : List En) : List Int := T.map (·.1)
def optN : Option Nat → V
  | none => .non
  | some q => .int (q : Int)
def EnV (K : Frag) (H : Hp) (e : En) (kv : Key × V) : Prop := kv.1 = Sum.inl e.1 ∧ ∃ t, kv.2 = .ref t ∧ SqT K H t [.int (e.2.1 : Int), optN e.2.2]
theorem EnV.gt {K : Frag} {H H' : Hp} {e : En} {kv : Key × V} (g : GT H H') : EnV K H e kv → EnV K H' e kv := fun ⟨h1, t, h2, h3⟩ => ⟨h1, t, h2, g.seqT h3⟩
def EnOk (M : List Mk) (S : List Stp) (n f : Int) (T : List En) (i : Nat) (e : En) : Prop :=
  (e.2.2 = none ∧ ∃ m, M[e.2.1]? = some m ∧ m.1 = e.1) ∨ (∃ q t, e.2.2 = some q ∧ S[q]? = some t ∧ sideOf f t = e.1 ∧ ∃ j e', j < i ∧ T[j]? = some e' ∧ e'.1 = sideOf n t ∧ e'.2.1 = e.2.1)
structure TI (M : List Mk) (S : List Stp) (n f : Int) (T : List En) : Prop where
  nd : (keysT T).Nodup
  en : ∀ i e, T[i]? = some e → EnOk M S n f T i e
theorem get_snoc {α : Type} {xs : List α} {x y : α} {i : Nat} (h : (xs ++ [x])[i]? = some y) : (i = xs.length ∧ y = x) ∨ xs[i]? = some y := by
  by_cases hi : i < xs.length
  · rw [List.getElem?_append_left hi] at h; exact .inr h
  · rw [List.getElem?_append_right (by omega)] at h
    have : i - xs.length = 0 := by
      by_cases z : i - xs.length = 0
      · exact z
      · rw [List.getElem?_eq_none (by simp; omega)] at h; cases h
    rw [this] at h
    injection h with h
    exact .inl ⟨by omega, h.symm⟩
theorem get_keep {α : Type} {xs : List α} {x y : α} {i : Nat} (h : xs[i]? = some y) : (xs ++ [x])[i]? = some y := by
  rw [List.getElem?_append_left (List.getElem?_eq_some_iff.mp h).1]; exact h
theorem TI.nil {M : List Mk} {S : List Stp} {n f : Int} : TI M S n f [] := ⟨by simp [keysT], fun i e h => by simp at h⟩
theorem keys_snoc (T : List En) (e : En) : keysT (T ++ [e]) = keysT T ++ [e.1] := by unfold keysT; rw [List.map_append]; rfl
theorem TI.snoc {M : List Mk} {S : List Stp} {n f : Int} {T : List En} {e : En} (h : TI M S n f T) (hn : e.1 ∉ keysT T) (he : EnOk M S n f T T.length e) : TI M S n f (T ++ [e]) := by
  have up : ∀ i d, EnOk M S n f T i d → EnOk M S n f (T ++ [e]) i d := fun i d h => by
    rcases h with h | ⟨q, t, h1, h2, h3, j, d', h4, h5, h6⟩
    · exact .inl h
    · exact .inr ⟨q, t, h1, h2, h3, j, d', h4, get_keep h5, h6⟩
  refine ⟨by rw [keys_snoc]; exact nodup_snoc h.nd hn, fun i d hd => ?_⟩
  rcases get_snoc hd with ⟨rfl, rfl⟩ | hd
  · exact up _ _ he
  · exact up _ _ (h.en i d hd)
def DoneT (S : List Stp) (n f : Int) (T : List En) (r : Int) : Prop := ∀ t ∈ S, sideOf n t = r → sideOf f t ∈ keysT T
theorem DoneT.snoc {S : List Stp} {n f : Int} {T : List En} {r : Int} {e : En} (h : DoneT S n f T r) : DoneT S n f (T ++ [e]) r := fun t ht hr => by rw [keys_snoc]; exact List.mem_append_left _ (h t ht hr)
def TrD (K : Frag) (H : Hp) (d : Addr) (T : List En) : Prop := ∃ kvs, H d = some (.dK kvs) ∧ Paired (EnV K H) T kvs
theorem val_none {K : Frag} {H : Hp} : ∀ {T : List En} {kvs : List (Key × V)} {r : Int}, Paired (EnV K H) T kvs → (valV kvs (Sum.inl r) = none ↔ r ∉ keysT T)
  | [], _, r, h => by cases h; simp [keysT, valV_nil]
  | e :: T, _, r, h => by
    cases h with
    | @cons _ kv _ kvs h1 h2 =>
      have ih := val_none (r := r) h2
      by_cases c : e.1 = r
      · rw [valV_pos (by rw [h1.1, c])]
        simp [keysT, c]
      · rw [valV_neg (by rw [h1.1]; exact fun z => c (by injection z)), ih]
        unfold keysT
        rw [List.map_cons, List.mem_cons]
        exact ⟨fun z y => y.elim (fun w => c w.symm) z, fun z y => z (.inr y)⟩
theorem val_some {K : Frag} {H : Hp} : ∀ {T : List En} {kvs : List (Key × V)} {r : Int}, Paired (EnV K H) T kvs → r ∈ keysT T → ∃ (i : Nat) (e : En) (t : Addr), T[i]? = some e ∧ e.1 = r ∧ valV kvs (Sum.inl r) = some (.ref t) ∧ SqT K H t [.int (e.2.1 : Int), optN e.2.2]
  | [], _, r, h, hr => by simp [keysT] at hr
  | e :: T, _, r, h, hr => by
    cases h with
    | @cons _ kv _ kvs h1 h2 =>
      by_cases c : e.1 = r
      · obtain ⟨k1, t, k2, k3⟩ := h1
        exact ⟨0, e, t, rfl, c, by rw [valV_pos (by rw [k1, c]), k2], k3⟩
      · have hr' : r ∈ keysT T := by
          unfold keysT at hr
          rw [List.map_cons, List.mem_cons] at hr
          exact hr.elim (fun z => absurd z.symm c) id
        obtain ⟨i, e', t, k1, k2, k3, k4⟩ := val_some h2 hr'
        exact ⟨i + 1, e', t, k1, k2, by rw [valV_neg (by rw [h1.1]; exact fun z => c (by injection z))]; exact k3, k4⟩
def MkL (K : Frag) (H : Hp) (a : Addr) (M : List Mk) : Prop := ∃ xs, SqL K H a xs ∧ Paired (MkV K H) M xs
structure TrOk (M : List Mk) (S : List Stp) (n f R : Int) (T : List En) : Prop where
  ti : TI M S n f T
  marks : ∀ m ∈ M, m.1 ∈ keysT T
  clo : ∀ r ∈ keysT T, DoneT S n f T r
  bnd : ∀ r ∈ keysT T, 0 ≤ r ∧ r < R
  first : ∀ m ∈ M, ∃ e ∈ T, e.1 = m.1 ∧ e.2.2 = none
def spTraces (K : Frag) : Sp := fun vs H Q _ => ∃ am M as_ S n f R, vs = [.ref am, .ref as_, .int n, .int f] ∧ MkL K H am M ∧ StL K H as_ S ∧ M.length ≤ 999 ∧ S.length ≤ 999 ∧ (n = 0 ∨ n = 3) ∧ (f = 0 ∨ f = 3) ∧ R ≤ 999 ∧
  (∀ m ∈ M, 0 ≤ m.1 ∧ m.1 < R) ∧ (∀ t ∈ S, 0 ≤ sideOf f t ∧ sideOf f t < R) ∧ ∀ d T H', Same H H' → H d = none → TrD K H' d T → TrOk M S n f R T → Q (.ref d) H'
def KB (d : Addr) (H H' : Hp) : Prop := ∀ b o, b ≠ d → H b = some o → H' b = some o
theorem KB.same {d : Addr} {A H H' : Hp} (k : KB d H H') (g : Same A H) (hd : A d = none) : Same A H' := fun b o q => k b o (ne_of_none q hd) (g b o q)
theorem KB.then {d : Addr} {H H' H'' : Hp} (k : KB d H H') (g : Same H' H'') : KB d H H'' := fun b o n q => g b o (k b o n q)
theorem KB.here {d : Addr} {H H' : Hp} {o : HO} (k : KB d H H') : KB d H (upd H' d o) := fun b u n q => by rw [upd_ne n]; exact k b u n q
theorem KB.new {d p : Addr} {H H' : Hp} {o : HO} (k : KB d H H') (hp : H p = none) : KB d H (upd H' p o) := fun b u n q => by rw [upd_ne (ne_of_none q hp)]; exact k b u n q
theorem len_bnd : ∀ (N : Nat) (xs : List Int), xs.Nodup → (∀ x ∈ xs, 0 ≤ x ∧ x < (N : Int)) → xs.length ≤ N
  | 0, [], _, _ => Nat.le_refl _
  | 0, x :: xs, _, h => by have := h x (List.mem_cons_self ..); omega
  | N + 1, xs, nd, h => by
    have := len_bnd N (xs.filter (fun x => decide (x ≠ (N : Int)))) (nd.filter _) (fun x hx => by
      have hx := List.mem_filter.mp hx
      have h1 := h x hx.1
      have h2 := of_decide_eq_true hx.2
      omega)
    by_cases c : (N : Int) ∈ xs
    · have e : xs.length = (xs.erase (N : Int)).length + 1 := by rw [List.length_erase_of_mem c]; have := List.length_pos_of_mem c; omega
      have e2 : xs.erase (N : Int) = xs.filter (fun x => decide (x ≠ (N : Int))) := by rw [List.Nodup.erase_eq_filter nd]; congr 1; funext x; by_cases z : x = (N : Int) <;> simp [z]
      rw [e, e2]; omega
    · have e2 : xs.filter (fun x => decide (x ≠ (N : Int))) = xs := List.filter_eq_self.mpr fun x hx => decide_eq_true (fun z => c (by rw [← z]; exact hx))
      rw [e2] at this; omega
def placesOf (n : Int) (S : List Stp) (r : Int) : List Nat := (List.range S.length).filter fun q => decide (keyP n S q = Sum.inl r)
theorem mem_placesOf {n : Int} {S : List Stp} {r : Int} {q : Nat} : q ∈ placesOf n S r ↔ ∃ t, S[q]? = some t ∧ sideOf n t = r := by
  unfold placesOf
  rw [List.mem_filter, List.mem_range, decide_eq_true_eq]
  constructor
  · rintro ⟨h1, h2⟩
    refine ⟨S[q], List.getElem?_eq_getElem h1, ?_⟩
    unfold keyP at h2
    rw [List.getElem?_eq_getElem h1] at h2
    injection h2
  · rintro ⟨t, h1, h2⟩
    refine ⟨(List.getElem?_eq_some_iff.mp h1).1, ?_⟩
    unfold keyP
    rw [h1, ← h2]; rfl
theorem paired_isq {H : Hp} : ∀ {qs : List Nat} {ys : List V}, Paired (isQ H) qs ys → ys = qs.map qV
  | [], _, h => by cases h; rfl
  | q :: qs, _, h => by
    cases h with
    | cons h1 h2 => rw [paired_isq h2]; unfold isQ at h1; rw [h1]; rfl
theorem pl_get {n : Int} {S : List Stp} {H0 H : Hp} {pd l0 : Addr} {kvs : List (Key × V)} (bk : Bk isQ (keyP n S) H0 H pd (List.range S.length) kvs) (r : Int) (e0 : H l0 = some (.lst [])) :
    ∃ la, (valV kvs (Sum.inl r)).getD (.ref l0) = .ref la ∧ H la = some (.lst ((placesOf n S r).map qV)) ∧ (la = l0 ∨ (H0 la = none ∧ ∃ k, valV kvs k = some (.ref la))) := by
  cases hv : valV kvs (Sum.inl r) with
  | none =>
    refine ⟨l0, rfl, ?_, .inl rfl⟩
    have : placesOf n S r = [] := bk.nokey _ hv
    rw [this]; exact e0
  | some v =>
    obtain ⟨l, ys, rfl, h1, h2, h3, h4, h5⟩ := bk.there _ _ hv
    refine ⟨l, rfl, ?_, .inr ⟨h1, _, hv⟩⟩
    rw [h3, paired_isq h4]; rfl
theorem TrD.put {K : Frag} {H : Hp} {d p : Addr} {T : List En} {kvs : List (Key × V)} {e : En} (hkd : H d = some (.dK kvs)) (hp : Paired (EnV K H) T kvs) (hn : e.1 ∉ keysT T) (et : H p = some (.tup [.int (e.2.1 : Int), optN e.2.2])) :
    TrD K (upd H d (.dK (putK kvs (Sum.inl e.1) (.ref p)))) d (T ++ [e]) := by
  have gt : GT H (upd H d (.dK (putK kvs (Sum.inl e.1) (.ref p)))) := gt_upd hkd (fun _ z => nomatch z) (fun _ _ z => nomatch z) _
  refine ⟨_, upd_same, ?_⟩
  have e1 := putK_new (.ref p) ((val_none hp).mpr hn)
  generalize upd H d (.dK (putK kvs (Sum.inl e.1) (.ref p))) = H' at gt ⊢
  rw [e1]
  exact paired_append (paired_mono (fun _ _ => EnV.gt gt) hp) (.cons ⟨rfl, p, rfl, gt.seqT (SqT.of et)⟩ .nil)
theorem en_keys {K : Frag} {H : Hp} : ∀ {T : List En} {kvs : List (Key × V)}, Paired (EnV K H) T kvs → kvs.map (fun kv => kV kv.1) = (keysT T).map V.int
  | [], _, h => by cases h; rfl
  | e :: T, _, h => by
    cases h with
    | cons h1 h2 => rw [List.map_cons, en_keys h2, h1.1]; rfl
theorem reps_ints {K : Frag} {H : Hp} : ∀ fr : List Int, Reps K H (fr.map D.int) (fr.map V.int)
  | [] => .nil
  | i :: fr => .cons (rep_int i) (reps_ints fr)
theorem deep_ints : ∀ fr : List Int, deeps (fr.map D.int) = 0
  | [] => rfl
  | i :: fr => by rw [List.map_cons, deeps, deep_ints fr]; rfl
theorem eqD_ints (fr : List Int) : eqD (.lst (fr.map D.int)) (.lst []) = decide (fr = []) := by
  cases fr with
  | nil => rfl
  | cons i fr => rfl
theorem bk_kb {n : Int} {S : List Stp} {A H H' : Hp} {pd d : Addr} {ts : List Nat} {kvs : List (Key × V)} (b : Bk isQ (keyP n S) A H pd ts kvs) (hd : A d ≠ none) (k : KB d H H') : Bk isQ (keyP n S) A H' pd ts kvs :=
  ⟨fun key v h => let ⟨l, ys, e, h1, h2, h3, h4, h5⟩ := b.there key v h; ⟨l, ys, e, h1, h2, k l _ (fun z => hd (z ▸ h1)) h3, paired_mono (fun _ _ h => h) h4, h5⟩, b.nokey, b.inj, b.len⟩
theorem TrD.gt {K : Frag} {H H' : Hp} {d : Addr} {T : List En} (g : GT H H') (e : H' d = H d) : TrD K H d T → TrD K H' d T := fun ⟨kvs, h, p⟩ => ⟨kvs, by rw [e]; exact h, paired_mono (fun _ _ => EnV.gt g) p⟩
theorem TrD.mono {K : Frag} {H H' : Hp} {d : Addr} {T : List En} (g : Same H H') : TrD K H d T → TrD K H' d T := fun ⟨kvs, h, p⟩ => ⟨kvs, g _ _ h, paired_mono (fun _ _ => EnV.gt (GT.of g)) p⟩
structure OkR (s : Scr) : Prop where
  lb : s.begins.length ≤ 999
  ls : s.steps.length ≤ 999
  le : s.ends.length ≤ 999
  lr : s.rooms ≤ 999
  mb : ∀ m ∈ s.begins, 0 ≤ m.1 ∧ m.1 < s.rooms
  ms : ∀ t ∈ s.steps, 0 ≤ t.1 ∧ t.1 < s.rooms ∧ 0 ≤ t.2.2.2 ∧ t.2.2.2 < s.rooms
  me : ∀ m ∈ s.ends, 0 ≤ m.1 ∧ m.1 < s.rooms
theorem OkR.side {s : Scr} (h : OkR s) {f : Int} (hf : f = 0 ∨ f = 3) : ∀ t ∈ s.steps, 0 ≤ sideOf f t ∧ sideOf f t < s.rooms := fun t ht => by
  obtain ⟨h1, h2, h3, h4⟩ := h.ms t ht
  rcases hf with rfl | rfl
  · exact ⟨h1, h2⟩
  · exact ⟨h3, h4⟩
def spTrB (K : Frag) : Sp := fun vs H Q _ => ∃ v s pb ps pe, vs = [v] ∧ ScV K H s v pb ps pe ∧ OkR s ∧ ∀ d T H', Same H H' → H d = none → TrD K H' d T → TrOk s.begins s.steps 0 3 s.rooms T → Q (.ref d) H'
def spTrE (K : Frag) : Sp := fun vs H Q _ => ∃ v s pb ps pe, vs = [v] ∧ ScV K H s v pb ps pe ∧ OkR s ∧ ∀ d T H', Same H H' → H d = none → TrD K H' d T → TrOk s.ends s.steps 3 0 s.rooms T → Q (.ref d) H'
inductive Rch (M : List Mk) (S : List Stp) (n f : Int) : Int → Prop
  | base {m : Mk} (h : m ∈ M) : Rch M S n f m.1
  | step {t : Stp} (h : t ∈ S) (r : Rch M S n f (sideOf n t)) : Rch M S n f (sideOf f t)
theorem TrOk.rch {M : List Mk} {S : List Stp} {n f R : Int} {T : List En} (h : TrOk M S n f R T) (r : Int) : r ∈ keysT T ↔ Rch M S n f r := by
  constructor
  · have go : ∀ (k i : Nat) (e : En), i < k → T[i]? = some e → Rch M S n f e.1 := by
      intro k
      induction k with
      | zero => intro i e hi; omega
      | succ k ih =>
        intro i e hi he
        rcases h.ti.en i e he with ⟨_, m, hm, hr⟩ | ⟨q, t, _, ht, hr, j, e', hj, he', hn, _⟩
        · rw [← hr]; exact .base (List.mem_of_getElem? hm)
        · rw [← hr]
          refine .step (List.mem_of_getElem? ht) ?_
          rw [← hn]; exact ih j e' (by omega) he'
    intro hr
    unfold keysT at hr
    obtain ⟨e, he, rfl⟩ := List.mem_map.mp hr
    obtain ⟨i, hi⟩ := List.getElem?_of_mem he
    exact go (i + 1) i e (by omega) hi
  · intro hr
    induction hr with
    | base hm => exact h.marks _ hm
    | step ht _ ih => exact h.clo _ ih _ ht rfl
theorem sorted_ext : ∀ (xs ys : List Int), xs.Pairwise (· < ·) → ys.Pairwise (· < ·) → (∀ r, r ∈ xs ↔ r ∈ ys) → xs = ys
  | [], [], _, _, _ => rfl
  | [], y :: ys, _, _, h => by have := (h y).mpr (List.mem_cons_self ..); cases this
  | x :: xs, [], _, _, h => by have := (h x).mp (List.mem_cons_self ..); cases this
  | x :: xs, y :: ys, h1, h2, h => by
    have a1 : ∀ z, z ∈ xs → x < z := (List.pairwise_cons.mp h1).1
    have a2 : ∀ z, z ∈ ys → y < z := (List.pairwise_cons.mp h2).1
    have e : x = y := by
      rcases List.mem_cons.mp ((h x).mp (List.mem_cons_self ..)) with z | z
      · exact z
      · rcases List.mem_cons.mp ((h y).mpr (List.mem_cons_self ..)) with w | w
        · exact w.symm
        · have := a1 _ w; have := a2 _ z; omega
    subst e
    rw [sorted_ext xs ys (List.Pairwise.of_cons h1) (List.Pairwise.of_cons h2) fun r => ?_]
    constructor
    · intro hr
      rcases List.mem_cons.mp ((h r).mp (List.mem_cons_of_mem _ hr)) with z | z
      · subst z; have := a1 _ hr; omega
      · exact z
    · intro hr
      rcases List.mem_cons.mp ((h r).mpr (List.mem_cons_of_mem _ hr)) with z | z
      · subst z; have := a2 _ hr; omega
      · exact z
def Use (s : Scr) (r : Int) : Prop := Rch s.begins s.steps 0 3 r ∧ Rch s.ends s.steps 3 0 r
open Classical in
noncomputable def useL (s : Scr) : List Int := ((List.range s.rooms.toNat).map fun k : Nat => (k : Int)).filter fun r => decide (Use s r)
theorem range_sorted : ∀ n : Nat, ((List.range n).map fun k : Nat => (k : Int)).Pairwise (· < ·)
  | 0 => by simp
  | n + 1 => by
    rw [List.range_succ, List.map_append, List.pairwise_append]
    refine ⟨range_sorted n, by simp, fun a ha b hb => ?_⟩
    obtain ⟨k, hk, rfl⟩ := List.mem_map.mp ha
    have := List.mem_range.mp hk
    have e : b = (n : Int) := by simpa using hb
    subst e
    show (k : Int) < n
    omega
theorem useL_sorted (s : Scr) : (useL s).Pairwise (· < ·) := (range_sorted _).filter _
theorem rch_bnd {M : List Mk} {S : List Stp} {n f R : Int} (hM : ∀ m ∈ M, 0 ≤ m.1 ∧ m.1 < R) (hS : ∀ t ∈ S, 0 ≤ sideOf f t ∧ sideOf f t < R) {r : Int} (h : Rch M S n f r) : 0 ≤ r ∧ r < R := by
  cases h with
  | base hm => exact hM _ hm
  | step ht _ => exact hS _ ht
open Classical in
theorem mem_useL {s : Scr} (ok : OkR s) (r : Int) : r ∈ useL s ↔ Use s r := by
  unfold useL
  rw [List.mem_filter, decide_eq_true_eq]
  refine ⟨fun h => h.2, fun h => ⟨?_, h⟩⟩
  obtain ⟨h1, h2⟩ := rch_bnd ok.mb (ok.side (.inr rfl)) h.1
  exact List.mem_map.mpr ⟨r.toNat, List.mem_range.mpr (by omega), by omega⟩
theorem useL_eq {s : Scr} (ok : OkR s) {T1 T2 : List En} (h1 : TrOk s.begins s.steps 0 3 s.rooms T1) (h2 : TrOk s.ends s.steps 3 0 s.rooms T2) {ns : List Int} (hp : ns.Perm ((keysT T1).filter fun r => decide (r ∈ keysT T2))) (hs : ns.Pairwise (· ≤ ·)) : ns = useL s := by
  have nd : ns.Nodup := hp.nodup_iff.mpr (h1.ti.nd.filter _)
  refine sorted_ext _ _ ((hs.and nd).imp fun {a b} z => by have := z.1; have := z.2; omega) (useL_sorted s) fun r => ?_
  rw [hp.mem_iff, List.mem_filter, decide_eq_true_eq, h1.rch, h2.rch, mem_useL ok]
  exact Iff.rfl
def spUseful (K : Frag) : Sp := fun vs H Q _ => ∃ v s pb ps pe, vs = [v] ∧ ScV K H s v pb ps pe ∧ OkR s ∧ s.rooms < 64 ∧ ∀ l H', Same H H' → H l = none → H' l = some (.lst ((useL s).map V.int)) → Q (.ref l) H'
theorem rooms_len {s : Scr} (ok : OkR s) (h : s.rooms < 64) {T : List En} (h1 : TrOk s.begins s.steps 0 3 s.rooms T) : T.length < 64 := by
  have := len_bnd s.rooms.toNat (keysT T) h1.ti.nd fun x hx => by have := h1.bnd x hx; omega
  unfold keysT at this
  rw [List.length_map] at this
  omega
def numK : List Int → Nat → List (Key × V)
  | [], _ => []
  | u :: us, k => (Sum.inl u, .int (k : Int)) :: numK us (k + 1)
theorem numK_len : ∀ (us : List Int) (k : Nat), (numK us k).length = us.length
  | [], _ => rfl
  | u :: us, k => by rw [numK, List.length_cons, numK_len us, List.length_cons]
theorem numK_snoc : ∀ (us : List Int) (u : Int) (k : Nat), numK (us ++ [u]) k = numK us k ++ [(Sum.inl u, .int ((k + us.length : Nat) : Int))]
  | [], u, k => rfl
  | x :: us, u, k => by
    rw [List.cons_append, numK, numK_snoc us u (k + 1), numK, List.cons_append, List.length_cons]
    have : k + 1 + us.length = k + (us.length + 1) := by omega
    rw [this]
def placeIn (us : List Int) (r : Int) : Option Nat := us.idxOf? r
theorem numK_val : ∀ (us : List Int) (k : Nat) (r : Int), valV (numK us k) (Sum.inl r) = (placeIn us r).map fun j => V.int ((k + j : Nat) : Int)
  | [], _, _ => rfl
  | u :: us, k, r => by
    rw [numK]
    by_cases c : u = r
    · subst c
      rw [valV_pos rfl]
      unfold placeIn
      rw [List.idxOf?_cons]
      simp
    · rw [valV_neg (fun z => c (by injection z)), numK_val us (k + 1) r]
      unfold placeIn
      rw [List.idxOf?_cons]
      simp only [beq_iff_eq, c, if_false]
      cases us.idxOf? r with
      | none => rfl
      | some j => simp only [Option.map_some]; congr 2; omega
def keptM (us : List Int) (M : List Mk) : List Mk := M.filterMap fun m => (placeIn us m.1).map fun k => ((k : Int), m.2)
def inUs (us : List Int) (t : Stp) : Bool := (placeIn us t.1).isSome && (placeIn us t.2.2.2).isSome
def newSt (us : List Int) (t : Stp) : Stp := (((placeIn us t.1).getD 0 : Nat), t.2.1, t.2.2.1, ((placeIn us t.2.2.2).getD 0 : Nat))
def keptS (us : List Int) (S : List Stp) : List Stp := (S.filter (inUs us)).map (newSt us)
def spKeptM (K : Frag) : Sp := fun vs H Q _ => ∃ am M d us, vs = [.ref am, .ref d] ∧ MkL K H am M ∧ M.length ≤ 999 ∧ H d = some (.dK (numK us 0)) ∧ ∀ l H', Same H H' → H l = none → (∃ xs, H' l = some (.lst xs) ∧ Paired (MkV K H') (keptM us M) xs) → Q (.ref l) H'
def spKeptS (K : Frag) : Sp := fun vs H Q _ => ∃ as_ S d us, vs = [.ref as_, .ref d] ∧ StL K H as_ S ∧ S.length ≤ 999 ∧ H d = some (.dK (numK us 0)) ∧ ∀ l H', Same H H' → H l = none → (∃ xs, H' l = some (.lst xs) ∧ Paired (StV K H') (keptS us S) xs) → Q (.ref l) H'
theorem keptM_len (us : List Int) (M : List Mk) : (keptM us M).length ≤ M.length := List.length_filterMap_le _ _
theorem numK_some {us : List Int} {r : Int} {j : Nat} (h : placeIn us r = some j) : valV (numK us 0) (Sum.inl r) = some (V.int (j : Int)) := by rw [numK_val, h]; simp
theorem numK_none {us : List Int} {r : Int} (h : placeIn us r = none) : valV (numK us 0) (Sum.inl r) = none := by rw [numK_val, h]; rfl
noncomputable def trimS (s : Scr) : Scr := ⟨s.signs, ((useL s).length : Int), keptM (useL s) s.begins, keptS (useL s) s.steps, keptM (useL s) s.ends⟩
def spTrim (K : Frag) : Sp := fun vs H Q _ => ∃ v s pb ps pe, vs = [v] ∧ ScV K H s v pb ps pe ∧ OkR s ∧ s.rooms < 64 ∧ ∀ v' H' pb' ps' pe', Same H H' → ScN K H' (trimS s) v' pb' ps' pe' → Apart H pb' ps' pe' → Q v' H'
theorem placeIn_snoc_none {us : List Int} {r u : Int} (hn : (us ++ [u]).Nodup) : placeIn us u = none := by
  unfold placeIn
  rw [List.idxOf?_eq_none_iff]
  intro h
  exact (List.nodup_append.mp hn).2.2 u h u (by simp) rfl
theorem useL_len {s : Scr} (h : s.rooms < 64) : (useL s).length < 64 := by
  have := List.length_filter_le (fun r => @decide (Use s r) (Classical.propDecidable _)) ((List.range s.rooms.toNat).map fun k : Nat => (k : Int))
  rw [List.length_map, List.length_range] at this
  unfold useL
  omega
inductive Wr (s : Scr) : Int → Str → Prop
  | fin {m : Mk} (h : m ∈ s.ends) : Wr s m.1 m.2
  | step {t : Stp} {w : Str} (h : t ∈ s.steps) (r : Wr s t.2.2.2 w) : Wr s t.1 (t.2.2.1 ++ w)
def wK (W : List (Int × Str)) : List (Key × V) := W.map fun e => (Sum.inl e.1, V.str e.2)
theorem wK_none : ∀ {W : List (Int × Str)} {r : Int}, r ∉ W.map (·.1) → valV (wK W) (Sum.inl r) = none
  | [], _, _ => rfl
  | e :: W, r, h => by
    rw [List.map_cons, List.mem_cons, not_or] at h
    show valV ((Sum.inl e.1, V.str e.2) :: wK W) _ = none
    rw [valV_neg (fun z => h.1 (by injection z with z; exact z.symm))]
    exact wK_none h.2
theorem wK_some : ∀ {W : List (Int × Str)} {r : Int}, r ∈ W.map (·.1) → ∃ w, (r, w) ∈ W ∧ valV (wK W) (Sum.inl r) = some (.str w)
  | e :: W, r, h => by
    by_cases c : e.1 = r
    · refine ⟨e.2, ?_, ?_⟩
      · rw [← c]; exact List.mem_cons_self ..
      · show valV ((Sum.inl e.1, V.str e.2) :: wK W) _ = _
        rw [valV_pos (by rw [c])]
    · rw [List.map_cons, List.mem_cons] at h
      obtain ⟨w, h1, h2⟩ := wK_some (h.resolve_left fun z => c z.symm)
      refine ⟨w, List.mem_cons_of_mem _ h1, ?_⟩
      show valV ((Sum.inl e.1, V.str e.2) :: wK W) _ = _
      rw [valV_neg (fun z => c (by injection z))]
      exact h2
theorem wK_len (W : List (Int × Str)) : (wK W).length = W.length := by unfold wK; rw [List.length_map]
structure WdL (s : Scr) (L : Nat) : Prop where
  wb : ∀ m ∈ s.begins, m.2.length ≤ L
  ws : ∀ t ∈ s.steps, t.2.2.1.length ≤ L
  we : ∀ m ∈ s.ends, m.2.length ≤ L
def spToEnds (K : Frag) : Sp := fun vs H Q _ => ∃ v s pb ps pe L, vs = [v] ∧ ScV K H s v pb ps pe ∧ OkR s ∧ WdL s L ∧ (L * s.rooms.toNat ≤ 90000 ∧ L ≤ 9000) ∧ ∀ d W H', Same H H' → H d = none → H' d = some (.dK (wK W)) → (W.map (·.1)).Nodup → (∀ r, r ∈ W.map (·.1) ↔ Rch s.ends s.steps 3 0 r) → (∀ e ∈ W, Wr s e.1 e.2 ∧ e.2.length ≤ L * s.rooms.toNat) → ((s.ends.map (·.1)).Nodup → ∀ m ∈ s.ends, (m.1, m.2) ∈ W) → Q (.ref d) H'
theorem nodup_inj {α β : Type} {f : α → β} : ∀ {xs : List α}, (xs.map f).Nodup → ∀ {a b : α}, a ∈ xs → b ∈ xs → f a = f b → a = b
  | x :: xs, nd, a, b, ha, hb, e => by
    rw [List.map_cons, List.nodup_cons] at nd
    rcases List.mem_cons.mp ha with h1 | h1 <;> rcases List.mem_cons.mp hb with h2 | h2
    · rw [h1, h2]
    · exact absurd (show f x ∈ xs.map f from List.mem_map.mpr ⟨b, h2, by rw [← e, h1]⟩) nd.1
    · exact absurd (show f x ∈ xs.map f from List.mem_map.mpr ⟨a, h1, by rw [e, h2]⟩) nd.1
    · exact nodup_inj nd.2 h1 h2 e
def goKey (t : Stp) : Key := Sum.inl t.2.2.2
def GoalD (K : Frag) (H0 H : Hp) (ts : List Stp) (v : V) : Prop := ∃ d kvs, v = .ref d ∧ H0 d = none ∧ H d = some (.dK kvs) ∧ Bk (StV K) goKey H0 H d ts kvs
def spGoal (K : Frag) : Sp := fun vs H Q _ => ∃ v s pb ps pe, vs = [v] ∧ ScV K H s v pb ps pe ∧ s.steps.length ≤ 999 ∧ ∀ v' H', Same H H' → GoalD K H H' s.steps v' → Q v' H'
def lcp : List Nat → List Nat → Nat
  | x :: xs, y :: ys => if x = y then lcp xs ys + 1 else 0
  | _, _ => 0
theorem lcp_le_left : ∀ a b, lcp a b ≤ a.length
  | [], _ => by simp [lcp]
  | _ :: _, [] => by simp [lcp]
  | x :: xs, y :: ys => by
    simp only [lcp]
    split
    · have := lcp_le_left xs ys; simp only [List.length_cons]; omega
    · simp
theorem lcp_le_right : ∀ a b, lcp a b ≤ b.length
  | [], _ => by simp [lcp]
  | _ :: _, [] => by simp [lcp]
  | x :: xs, y :: ys => by
    simp only [lcp]
    split
    · have := lcp_le_right xs ys; simp only [List.length_cons]; omega
    · simp
theorem take_iff : ∀ (k : Nat) (a b : List Nat), k ≤ a.length → k ≤ b.length → (a.take k = b.take k ↔ k ≤ lcp a b)
  | 0, _, _, _, _ => by simp
  | k + 1, [], _, h, _ => by simp at h
  | k + 1, _ :: _, [], _, h => by simp at h
  | k + 1, x :: xs, y :: ys, h1, h2 => by
    have ih := take_iff k xs ys (by simpa using h1) (by simpa using h2)
    simp only [List.take_succ_cons, List.cons.injEq, lcp]
    by_cases e : x = y
    · rw [if_pos e]; simp only [e, true_and, ih]; omega
    · rw [if_neg e]; simp [e]
theorem mid_iff {a b : List Nat} {s m : Nat} (hs : s ≤ m) (ha : m ≤ a.length) (hb : m ≤ b.length) (h : s ≤ lcp a b) :
    ((a.drop s).take (m - s) = (b.drop s).take (m - s) ↔ m ≤ lcp a b) := by
  rw [← take_iff m a b ha hb]
  have es := (take_iff s a b (by omega) (by omega)).mpr h
  have split : ∀ l : List Nat, l.take m = l.take s ++ (l.drop s).take (m - s) := fun l => by
    have := List.take_add (l := l) (i := s) (j := m - s)
    rw [show s + (m - s) = m by omega] at this
    exact this
  rw [split a, split b, es]
  exact ⟨fun h => by rw [h], fun h => List.append_cancel_left h⟩
abbrev L (a b : Str) : Int := ((lcp (cl a) (cl b) : Nat) : Int)
theorem L_le (a b : Str) : 0 ≤ L a b ∧ L a b ≤ a.length ∧ L a b ≤ b.length := by
  have h1 := lcp_le_left (cl a) (cl b)
  have h2 := lcp_le_right (cl a) (cl b)
  rw [cl_length] at h1 h2
  unfold L
  omega
theorem cut_in {z : Str} {i j : Int} (h0 : 0 ≤ i) (h1 : i ≤ j) (h2 : j ≤ z.length) : cl (Txt.slice z (some i) (some j)) = ((cl z).drop i.toNat).take (j.toNat - i.toNat) := by
  obtain ⟨m, rfl⟩ := Int.eq_ofNat_of_zero_le h0
  obtain ⟨n, rfl⟩ := Int.eq_ofNat_of_zero_le (Int.le_trans h0 h1)
  rw [cl_slice, HT.sIx_nat, HT.sIx_nat, Nat.min_eq_left (by omega), Nat.min_eq_left (by omega)]
  rfl
theorem cut_to {z : Str} {j : Int} (h0 : 0 ≤ j) (h1 : j ≤ z.length) : cl (Txt.slice z none (some j)) = (cl z).take j.toNat := by
  obtain ⟨m, rfl⟩ := Int.eq_ofNat_of_zero_le h0
  rw [cl_slice, HT.sIx_nat, HT.sIx_none, Nat.min_eq_left (by omega), List.drop_zero]
  rfl
theorem mid_test {a b : Str} {i j : Int} (h0 : 0 ≤ i) (h1 : i ≤ j) (h2 : j ≤ a.length) (h3 : j ≤ b.length) (hi : i ≤ L a b) : Txt.slice a (some i) (some j) = Txt.slice b (some i) (some j) ↔ j ≤ L a b := by
  have m := mid_iff (a := cl a) (b := cl b) (s := i.toNat) (m := j.toNat) (by omega) (by rw [cl_length]; omega) (by rw [cl_length]; omega) (by unfold L at hi; omega)
  constructor
  · intro e
    have e' := congrArg cl e
    rw [cut_in h0 h1 h2, cut_in h0 h1 h3] at e'
    have := m.mp e'
    unfold L; omega
  · intro e
    refine str_ext ?_
    rw [cut_in h0 h1 h2, cut_in h0 h1 h3]
    exact m.mpr (by unfold L at e; omega)
def spSharedL : Sp := fun vs H Q _ => ∃ a b : Str, vs = [.str a, .str b] ∧ a.length ≤ 99999 ∧ b.length ≤ 99999 ∧ Q (.int (L a b)) H
def lookW (W : List (Int × Str)) (r : Int) : Option Str := (W.find? fun e => decide (e.1 = r)).map (·.2)
theorem look_pos {e : Int × Str} {W : List (Int × Str)} {r : Int} (h : e.1 = r) : lookW (e :: W) r = some e.2 := by simp [lookW, List.find?_cons, h]
theorem look_neg {e : Int × Str} {W : List (Int × Str)} {r : Int} (h : ¬ e.1 = r) : lookW (e :: W) r = lookW W r := by simp [lookW, List.find?_cons, h]
theorem val_wK : ∀ (W : List (Int × Str)) (r : Int), valV (wK W) (Sum.inl r) = (lookW W r).map V.str
  | [], _ => rfl
  | e :: W, r => by
    show valV ((Sum.inl e.1, V.str e.2) :: wK W) _ = _
    by_cases c : e.1 = r
    · rw [valV_pos (by rw [c]), look_pos c]; rfl
    · rw [valV_neg (fun z => c (by injection z)), look_neg c, val_wK W r]
theorem look_mem : ∀ {W : List (Int × Str)} {r : Int}, r ∈ W.map (·.1) → ∃ w, lookW W r = some w
  | e :: W, r, h => by
    by_cases c : e.1 = r
    · exact ⟨e.2, look_pos c⟩
    · rw [List.map_cons, List.mem_cons] at h
      obtain ⟨w, h1⟩ := look_mem (h.resolve_left fun z => c z.symm)
      exact ⟨w, by rw [look_neg c]; exact h1⟩
def setW (W : List (Int × Str)) (r : Int) (w : Str) : List (Int × Str) := W.map fun e => if e.1 = r then (e.1, w) else e
theorem set_keys (W : List (Int × Str)) (r : Int) (w : Str) : (setW W r w).map (·.1) = W.map (·.1) := by
  unfold setW
  rw [List.map_map]
  refine List.map_congr_left fun e _ => ?_
  show (if e.1 = r then (e.1, w) else e).1 = e.1
  split <;> rfl
theorem look_set (r : Int) (w : Str) (r' : Int) : ∀ W : List (Int × Str), lookW (setW W r w) r' = (lookW W r').map fun x => if r' = r then w else x
  | [] => rfl
  | e :: W => by
    have ih := look_set r w r' W
    show lookW ((if e.1 = r then (e.1, w) else e) :: setW W r w) r' = _
    by_cases c : e.1 = r'
    · rw [look_pos (by split <;> exact c), look_pos c]
      by_cases c2 : e.1 = r
      · rw [if_pos c2]; show some w = some (if r' = r then w else e.2); rw [if_pos (by rw [← c, c2])]
      · rw [if_neg c2]; show some e.2 = some (if r' = r then w else e.2); rw [if_neg (by rw [← c]; exact c2)]
    · rw [look_neg (by split <;> exact c), look_neg c, ih]
theorem put_wK {W : List (Int × Str)} {r : Int} {a w : Str} (h : lookW W r = some a) : putK (wK W) (Sum.inl r) (.str w) = wK (setW W r w) := by
  unfold putK
  rw [valV_any, val_wK, h, if_pos (show (Option.map V.str (some a)).isSome = true from rfl)]
  unfold wK setW
  rw [List.map_map, List.map_map]
  refine List.map_congr_left fun e _ => ?_
  show (if (Sum.inl e.1 : Key) = Sum.inl r then ((Sum.inl e.1 : Key), V.str w) else (Sum.inl e.1, V.str e.2)) = (Sum.inl (if e.1 = r then (e.1, w) else e).1, V.str (if e.1 = r then (e.1, w) else e).2)
  by_cases c : e.1 = r
  · rw [if_pos (by rw [c]), if_pos c]
  · rw [if_neg (fun z => c (by injection z)), if_neg c]
def sumL (W : List (Int × Str)) : Nat := (W.map fun e => e.2.length).sum
theorem set_off {r : Int} {w : Str} : ∀ {W : List (Int × Str)}, r ∉ W.map (·.1) → setW W r w = W
  | [], _ => rfl
  | e :: W, h => by
    rw [List.map_cons, List.mem_cons, not_or] at h
    show (if e.1 = r then (e.1, w) else e) :: setW W r w = _
    rw [if_neg (fun z => h.1 z.symm), set_off h.2]
theorem sum_set {r : Int} {a w : Str} (hw : w.length < a.length) : ∀ {W : List (Int × Str)}, (W.map (·.1)).Nodup → lookW W r = some a → sumL (setW W r w) < sumL W
  | e :: W, nd, h => by
    rw [List.map_cons, List.nodup_cons] at nd
    show (if e.1 = r then (e.1, w) else e).2.length + sumL (setW W r w) < e.2.length + sumL W
    by_cases c : e.1 = r
    · rw [look_pos c] at h
      injection h with h
      rw [if_pos c, set_off (by rw [← c]; exact nd.1), h]
      show w.length + _ < _
      omega
    · rw [look_neg c] at h
      rw [if_neg c]
      have := sum_set hw nd.2 h
      omega
structure Sh (S : List Stp) (W0 W : List (Int × Str)) : Prop where
  keys : W.map (·.1) = W0.map (·.1)
  le : ∀ r a0 a, lookW W0 r = some a0 → lookW W r = some a → cl a <+: cl a0
  low : ∀ h : Int → Str, (∀ r a0, lookW W0 r = some a0 → cl (h r) <+: cl a0) → (∀ t ∈ S, t.1 ∈ W0.map (·.1) → t.2.2.2 ∈ W0.map (·.1) → cl (h t.1) <+: cl (t.2.2.1 ++ h t.2.2.2)) → ∀ r a, lookW W r = some a → cl (h r) <+: cl a
def Sat (W : List (Int × Str)) (t : Stp) : Prop := ∀ a b, lookW W t.1 = some a → lookW W t.2.2.2 = some b → cl a <+: cl (t.2.2.1 ++ b)
theorem Sh.refl (S : List Stp) (W : List (Int × Str)) : Sh S W W := ⟨rfl, fun r a0 a h1 h2 => by rw [h1] at h2; cases h2; exact List.prefix_refl _, fun h h1 _ r a h2 => h1 r a h2⟩
theorem lcp_pre (a b : List Nat) : a.take (lcp a b) <+: b := by
  have h := lcp_le_right a b
  have := (mid_iff (a := a) (b := b) (s := 0) (m := lcp a b) (by omega) (lcp_le_left a b) h (by omega)).mpr (Nat.le_refl _)
  rw [List.drop_zero, List.drop_zero, Nat.sub_zero] at this
  rw [this]
  exact List.take_prefix _ _
theorem lcp_max {x a b : List Nat} (h1 : x <+: a) (h2 : x <+: b) : x <+: a.take (lcp a b) := by
  have e1 := List.prefix_iff_eq_take.mp h1
  have e2 := List.prefix_iff_eq_take.mp h2
  have := (mid_iff (a := a) (b := b) (s := 0) (m := x.length) (by omega) h1.length_le h2.length_le (by omega)).mp (by rw [List.drop_zero, List.drop_zero, Nat.sub_zero, ← e1, ← e2])
  rw [e1]
  exact List.take_prefix_take_left (by omega)
theorem Sh.sat_step {S : List Stp} {W0 W : List (Int × Str)} (sh : Sh S W0 W) {t : Stp} (ht : t ∈ S) (k1 : t.1 ∈ W0.map (·.1)) (k2 : t.2.2.2 ∈ W0.map (·.1)) {a b w : Str} (ha : lookW W t.1 = some a) (hb : lookW W t.2.2.2 = some b) (hw : cl w = (cl a).take (lcp (cl a) (cl (t.2.2.1 ++ b)))) : Sh S W0 (setW W t.1 w) := by
  have hwa : cl w <+: cl a := by rw [hw]; exact List.take_prefix _ _
  refine ⟨by rw [set_keys]; exact sh.keys, fun r a0 x h0 hx => ?_, fun h h0 hS r x hx => ?_⟩
  · rw [look_set] at hx
    cases hr : lookW W r with
    | none => rw [hr] at hx; cases hx
    | some y =>
      rw [hr] at hx
      injection hx with hx
      replace hx : (if r = t.1 then w else y) = x := hx
      by_cases c : r = t.1
      · rw [if_pos c] at hx
        subst hx
        subst c
        rw [ha] at hr
        cases hr
        exact hwa.trans (sh.le _ _ _ h0 ha)
      · rw [if_neg c] at hx
        subst hx
        exact sh.le _ _ _ h0 hr
  · rw [look_set] at hx
    cases hr : lookW W r with
    | none => rw [hr] at hx; cases hx
    | some y =>
      rw [hr] at hx
      injection hx with hx
      replace hx : (if r = t.1 then w else y) = x := hx
      by_cases c : r = t.1
      · rw [if_pos c] at hx
        subst hx
        subst c
        rw [hw]
        refine lcp_max (sh.low h h0 hS _ _ ha) ((hS t ht k1 k2).trans ?_)
        rw [cl_append, cl_append]
        exact (List.prefix_append_right_inj _).mpr (sh.low h h0 hS _ _ hb)
      · rw [if_neg c] at hx
        subst hx
        exact sh.low h h0 hS _ _ hr
theorem sat_set {W : List (Int × Str)} {r : Int} {a w : Str} (ha : lookW W r = some a) (hw : cl w <+: cl a) {t : Stp} (h : Sat W t) (hg : t.2.2.2 ≠ r) : Sat (setW W r w) t := fun x b hx hb => by
  rw [look_set] at hx hb
  cases hr : lookW W t.2.2.2 with
  | none => rw [hr] at hb; cases hb
  | some y =>
    rw [hr] at hb
    injection hb with hb
    replace hb : (if t.2.2.2 = r then w else y) = b := hb
    rw [if_neg hg] at hb
    subst hb
    cases hs : lookW W t.1 with
    | none => rw [hs] at hx; cases hx
    | some z =>
      rw [hs] at hx
      injection hx with hx
      replace hx : (if t.1 = r then w else z) = x := hx
      by_cases c : t.1 = r
      · rw [if_pos c] at hx
        subst hx
        rw [c, ha] at hs
        cases hs
        exact hw.trans (h a y (by rw [c]; exact ha) hr)
      · rw [if_neg c] at hx
        subst hx
        exact h z y hs hr
def KBB (d e : Addr) (H H' : Hp) : Prop := ∀ b o, b ≠ d → b ≠ e → H b = some o → H' b = some o
theorem kbb_bk {K : Frag} {A H H' : Hp} {dg d e : Addr} {ts : List Stp} {kvs : List (Key × V)} (b : Bk (StV K) goKey A H dg ts kvs) (hd : ∃ kd, H d = some (.dK kd)) (he : ∃ ke, H e = some (.dK ke)) (k : KBB d e H H') : ∀ key v, valV kvs key = some v → ∃ l ys, v = .ref l ∧ H l = some (.lst ys) ∧ H' l = some (.lst ys) ∧ Paired (StV K H) (ts.filter fun t => decide (goKey t = key)) ys := fun key v h => by
  obtain ⟨l, ys, e1, _, _, h3, h4, _⟩ := b.there key v h
  obtain ⟨kd, hd⟩ := hd
  obtain ⟨ke, he⟩ := he
  exact ⟨l, ys, e1, h3, k l _ (fun z => by rw [z, hd] at h3; cases h3) (fun z => by rw [z, he] at h3; cases h3) h3, h4⟩
theorem kbb_gt {H H' : Hp} {d e : Addr} (hd : ∃ kd, H d = some (.dK kd)) (he : ∃ ke, H e = some (.dK ke)) (k : KBB d e H H') : GT H H' := fun b xs q => by
  obtain ⟨kd, hd⟩ := hd
  obtain ⟨ke, he⟩ := he
  rcases q with q | ⟨u, q⟩
  · exact .inl (k b _ (fun z => by rw [z, hd] at q; cases q) (fun z => by rw [z, he] at q; cases q) q)
  · exact .inr ⟨u, k b _ (fun z => by rw [z, hd] at q; cases q) (fun z => by rw [z, he] at q; cases q) q⟩
theorem kbb_sq {K : Frag} {H H' : Hp} {a d e : Addr} {xs : List V} (hd : ∃ kd, H d = some (.dK kd)) (he : ∃ ke, H e = some (.dK ke)) (k : KBB d e H H') (h : SqL K H a xs) : SqL K H' a xs := by
  obtain ⟨kd, hd⟩ := hd
  obtain ⟨ke, he⟩ := he
  rcases h with h | h
  · rcases h with q | ⟨u, q⟩
    · exact .inl (.inl (k a _ (fun z => by rw [z, hd] at q; cases q) (fun z => by rw [z, he] at q; cases q) q))
    · exact .inl (.inr ⟨u, k a _ (fun z => by rw [z, hd] at q; cases q) (fun z => by rw [z, he] at q; cases q) q⟩)
  · exact .inr h
def spShort (K : Frag) : Sp := fun vs H Q _ => ∃ (dh : Addr) (W : List (Int × Str)) (lr : Addr) (rs : List Int) (dg : Addr) (kvg : List (Key × V)) (A : Hp) (S : List Stp), vs = [.ref dh, .ref lr, .ref dg] ∧ H dh = some (.dK (wK W)) ∧ (W.map (·.1)).Nodup ∧ (∀ r ∈ W.map (·.1), 0 ≤ r ∧ r < 999) ∧ SqL K H lr (rs.map V.int) ∧ (∀ r ∈ rs, r ∈ W.map (·.1)) ∧ H dg = some (.dK kvg) ∧ dg ≠ dh ∧ Bk (StV K) goKey A H dg S kvg ∧
  (∀ t ∈ S, t.2.2.2 ∈ W.map (·.1) → t.1 ∈ W.map (·.1)) ∧ (∀ r a, lookW W r = some a → a.length ≤ 90000) ∧ (∀ t ∈ S, t.2.2.1.length ≤ 9000) ∧
  ∀ (l : Addr) (W' : List (Int × Str)) (out : List Int) (H' : Hp), KB dh H H' → H l = none → H' dh = some (.dK (wK W')) → H' l = some (.lst (out.map V.int)) → Sh S W W' → (∀ r ∈ out, r ∈ W.map (·.1)) → sumL W' ≤ sumL W → (out ≠ [] → sumL W' < sumL W) → (∀ t ∈ S, (Sat W t ∨ t.2.2.2 ∈ rs) → (Sat W' t ∨ t.2.2.2 ∈ out)) → Q (.ref l) H'
structure HdOk (s : Scr) (W : List (Int × Str)) : Prop where
  nd : (W.map (·.1)).Nodup
  keys : ∀ r, r ∈ W.map (·.1) ↔ Rch s.ends s.steps 3 0 r
  fin : ∀ m ∈ s.ends, ∀ a, lookW W m.1 = some a → cl a <+: cl m.2
  sat : ∀ t ∈ s.steps, Sat W t
  low : ∀ h : Int → Str, (∀ r w, Wr s r w → cl (h r) <+: cl w) → (∀ t ∈ s.steps, t.1 ∈ W.map (·.1) → t.2.2.2 ∈ W.map (·.1) → cl (h t.1) <+: cl (t.2.2.1 ++ h t.2.2.2)) → ∀ r a, lookW W r = some a → cl (h r) <+: cl a
  len : ∀ r a, lookW W r = some a → a.length ≤ 90000
def spHeadsBy (K : Frag) : Sp := fun vs H Q _ => ∃ v s pb ps pe L, vs = [v] ∧ ScV K H s v pb ps pe ∧ OkR s ∧ WdL s L ∧ (L * s.rooms.toNat ≤ 90000 ∧ L ≤ 9000) ∧ (s.ends.map (·.1)).Nodup ∧ ∀ d W H', Same H H' → H d = none → H' d = some (.dK (wK W)) → HdOk s W → (∀ r a, lookW W r = some a → a.length ≤ L * s.rooms.toNat) → Q (.ref d) H'
theorem KB.trans {d : Addr} {A B C : Hp} (a : KB d A B) (b : KB d B C) : KB d A C := fun x o n h => b x o n (a x o n h)
theorem kb_gt {H H' : Hp} {d : Addr} {kd : List (Key × V)} (hd : H d = some (.dK kd)) (k : KB d H H') : GT H H' := fun b xs q => by
  rcases q with q | ⟨u, q⟩
  · exact .inl (k b _ (fun z => by rw [z, hd] at q; cases q) q)
  · exact .inr ⟨u, k b _ (fun z => by rw [z, hd] at q; cases q) q⟩
theorem bk_kbS {K : Frag} {A H H' : Hp} {dg d : Addr} {kd : List (Key × V)} {ts : List Stp} {kvs : List (Key × V)} (b : Bk (StV K) goKey A H dg ts kvs) (hA : A d ≠ none) (hd : H d = some (.dK kd)) (k : KB d H H') : Bk (StV K) goKey A H' dg ts kvs :=
  ⟨fun key v h => let ⟨l, ys, e, h1, h2, h3, h4, h5⟩ := b.there key v h; ⟨l, ys, e, h1, h2, k l _ (fun z => hA (z ▸ h1)) h3, paired_mono (fun _ _ => StV.gt (kb_gt hd k)) h4, h5⟩, b.nokey, b.inj, b.len⟩
theorem look_in : ∀ {W : List (Int × Str)} {r : Int} {w : Str}, lookW W r = some w → (r, w) ∈ W
  | e :: W, r, w, h => by
    by_cases c : e.1 = r
    · rw [look_pos c] at h
      injection h with h
      rw [← c, ← h]; exact List.mem_cons_self ..
    · rw [look_neg c] at h
      exact List.mem_cons_of_mem _ (look_in h)
theorem look_of {W : List (Int × Str)} (nd : (W.map (·.1)).Nodup) {r : Int} {w : Str} (h : (r, w) ∈ W) : lookW W r = some w := by
  obtain ⟨x, hx⟩ := look_mem (W := W) (r := r) (List.mem_map.mpr ⟨_, h, rfl⟩)
  have := nodup_inj nd (look_in hx) h rfl
  rw [hx]
  injection this with _ this
  rw [this]
theorem look_key {W : List (Int × Str)} {r : Int} {w : Str} (h : lookW W r = some w) : r ∈ W.map (·.1) := List.mem_map.mpr ⟨_, look_in h, rfl⟩
theorem Sh.trans {S : List Stp} {W0 W1 W2 : List (Int × Str)} (a : Sh S W0 W1) (b : Sh S W1 W2) : Sh S W0 W2 := by
  refine ⟨b.keys.trans a.keys, fun r a0 x h0 hx => ?_, fun h h0 hS r x hx => ?_⟩
  · obtain ⟨y, hy⟩ := look_mem (W := W1) (r := r) (by rw [a.keys]; exact look_key h0)
    exact (b.le _ _ _ hy hx).trans (a.le _ _ _ h0 hy)
  · exact b.low h (fun r a1 h1 => a.low h h0 hS r a1 h1) (fun t ht k1 k2 => hS t ht (by rw [← a.keys]; exact k1) (by rw [← a.keys]; exact k2)) r x hx
theorem plain_ends {s : Scr} (h : plainB s = true) : (s.ends.map (·.1)).Nodup := by
  unfold plainB at h
  rw [Bool.and_eq_true] at h
  have h2 := of_decide_eq_true h.2
  have e : lasts s = (s.ends.map (·.1)).map (fun r => (Sum.inl r : Key)) := by unfold lasts; rw [List.map_map]; rfl
  rw [e] at h2
  exact List.Pairwise.of_map _ (fun a b z y => z (by rw [y])) h2
def headL (s : Scr) (W : List (Int × Str)) (n : Nat) : List V := (List.range n).map fun k : Nat => optV (lookW W (k : Int))
def spHeads (K : Frag) (c : Addr) : Sp := fun vs H Q E => ∃ v s pb ps pe L, vs = [v] ∧ ScV K H s v pb ps pe ∧ OkR s ∧ 0 ≤ s.rooms ∧ WdL s L ∧ (L * s.rooms.toNat ≤ 90000 ∧ L ≤ 9000) ∧ (plainB s = true → ∀ l W H', Same H H' → H l = none → HdOk s W → (∀ r a, lookW W r = some a → a.length ≤ L * s.rooms.toNat) → H' l = some (.lst (headL s W s.rooms.toNat)) → Q (.ref l) H') ∧ (plainB s = false → ∀ H', Same H H' → E (.ref c) none H')
def spMixed : Sp := fun vs H Q _ => ∃ c k : Int, vs = [.int c, .int k] ∧ ∀ n : Int, 0 ≤ n → n < 2147483587 → Q (.int n) H
def spRest (K : Frag) : Sp := fun vs H Q _ => ∃ (a : Addr) (ns : List Int) (k salt : Int), vs = [.ref a, .int k, .int salt] ∧ SqL K H a (ns.map V.int) ∧ 0 ≤ k ∧ 0 ≤ salt ∧ salt ≤ 8000 ∧ ∀ n : Int, Q (.int n) H
def isLet (v : V) : Prop := ∃ x : Str, v = .str x ∧ 1 ≤ x.length ∧ x.length ≤ 26 ∧ ∀ c ∈ cl x, 97 ≤ c ∧ c ≤ 122
def spSigns2 : Sp := fun vs H Q _ => ∃ n : Int, vs = [.int n] ∧ ∀ (g : Str) (H' : Hp), SgnOk g → Same H H' → Q (.str g) H'
theorem abc_cl : cl ("abcdefghijklmnopqrstuvwxyz" : Str) = List.range' 97 26 := by decide +kernel
theorem abc_len : ("abcdefghijklmnopqrstuvwxyz" : Str).length = 26 := by decide +kernel
theorem abc_at {j : Int} (h0 : 0 ≤ j) (h1 : j < 26) : atI (cl ("abcdefghijklmnopqrstuvwxyz" : Str)) j = some (97 + j.toNat) := by
  obtain ⟨n, rfl⟩ := Int.eq_ofNat_of_zero_le h0
  refine atI_nat ?_
  rw [abc_cl, List.getElem?_range' (by omega)]
  simp
def sgC (m : Int) (k : Nat) : Nat := 97 + ((m + 7 * (k : Int)) % 26).toNat
theorem cl_catS : ∀ cs : List Nat, cl (catS (cs.map fun c => (⟨#[c]⟩ : Str))) = cs
  | [] => by decide +kernel
  | c :: cs => by
    have go : ∀ (ys : List Str) (a : Str), cl (ys.foldl (· ++ ·) a) = cl a ++ cl (catS ys) := by
      intro ys
      induction ys with
      | nil => intro a; show cl a = cl a ++ cl ("" : Str); rw [show cl ("" : Str) = [] by decide +kernel, List.append_nil]
      | cons y ys ih =>
        intro a
        have h1 := ih (a ++ y)
        have h2 := ih ("" ++ y)
        show cl (ys.foldl (· ++ ·) (a ++ y)) = cl a ++ cl (ys.foldl (· ++ ·) ("" ++ y))
        rw [h1, h2, cl_append, cl_append, show cl ("" : Str) = [] by decide +kernel, List.nil_append, List.append_assoc]
    rw [List.map_cons]
    show cl ((cs.map fun c => (⟨#[c]⟩ : Str)).foldl (· ++ ·) ("" ++ ⟨#[c]⟩)) = _
    rw [go, cl_catS cs, cl_append, show cl ("" : Str) = [] by decide +kernel, cl_one]; rfl
theorem sgC_nodup (m : Int) : ∀ n : Nat, n ≤ 5 → ((List.range n).map (sgC m)).Nodup
  | 0, _ => by simp
  | n + 1, h => by
    rw [List.range_succ, List.map_append]
    refine nodup_snoc (sgC_nodup m n (by omega)) fun hm => ?_
    obtain ⟨k, hk, e⟩ := List.mem_map.mp hm
    have := List.mem_range.mp hk
    unfold sgC at e
    have h1 := Int.emod_nonneg (m + 7 * (k : Int)) (show (26 : Int) ≠ 0 by decide)
    have h2 := Int.emod_nonneg (m + 7 * (n : Int)) (show (26 : Int) ≠ 0 by decide)
    omega
theorem sg_ok (m : Int) {n : Nat} (h1 : 1 ≤ n) (h5 : n ≤ 5) : SgnOk (catS (((List.range n).map (sgC m)).map fun c => (⟨#[c]⟩ : Str))) := by
  have e := cl_catS ((List.range n).map (sgC m))
  refine ⟨?_, ?_, ?_, ?_⟩
  · rw [← cl_length, e, List.length_map, List.length_range]; exact h1
  · rw [← cl_length, e, List.length_map, List.length_range]; exact h5
  · rw [e]; exact sgC_nodup m n h5
  · rw [e]
    intro c hc
    obtain ⟨k, _, rfl⟩ := List.mem_map.mp hc
    unfold sgC
    have h1 := Int.emod_nonneg (m + 7 * (k : Int)) (show (26 : Int) ≠ 0 by decide)
    have h2 := Int.emod_lt_of_pos (m + 7 * (k : Int)) (show (0 : Int) < 26 by decide)
    omega
def keyT (t : Stp) : List Key := [Sum.inl t.1, Sum.inr t.2.1]
def EnS (K : Frag) (H : Hp) (t : Stp) (kv : List Key × V) : Prop := kv.1 = keyT t ∧ ∃ b, kv.2 = .ref b ∧ SqT K H b [.str t.2.2.1, .int t.2.2.2]
theorem EnS.gt {K : Frag} {H H' : Hp} {t : Stp} {kv : List Key × V} (g : GT H H') : EnS K H t kv → EnS K H' t kv := fun ⟨e, b, e2, h⟩ => ⟨e, b, e2, g.seqT h⟩
theorem paired_put {κ α : Type} [DecidableEq κ] {R : α → κ × V → Prop} {k : κ} {v : V} {t : α} (ht : R t (k, v)) {S : List α} {kvs : List (κ × V)} (h : Paired R S kvs) : ∃ S', Paired R S' (putK kvs k v) ∧ ∀ x ∈ S', x ∈ S ∨ x = t := by
  unfold putK
  split
  · have go : ∀ {S : List α} {kvs : List (κ × V)}, Paired R S kvs → ∃ S', Paired R S' (kvs.map fun kv => if kv.1 = k then (kv.1, v) else kv) ∧ ∀ x ∈ S', x ∈ S ∨ x = t := fun h => by
      induction h with
      | nil => exact ⟨[], .nil, fun x hx => nomatch hx⟩
      | @cons a kv as ks r _ ih =>
        obtain ⟨S', h1, h2⟩ := ih
        by_cases c : kv.1 = k
        · refine ⟨t :: S', ?_, fun x hx => ?_⟩
          · rw [List.map_cons, if_pos c, c]; exact .cons ht h1
          · rcases List.mem_cons.mp hx with z | z
            · exact .inr z
            · exact (h2 x z).imp (List.mem_cons_of_mem _) id
        · refine ⟨a :: S', ?_, fun x hx => ?_⟩
          · rw [List.map_cons, if_neg c]; exact .cons r h1
          · rcases List.mem_cons.mp hx with z | z
            · exact .inl (z ▸ List.mem_cons_self ..)
            · exact (h2 x z).imp (List.mem_cons_of_mem _) id
    exact go h
  · exact ⟨S ++ [t], paired_append h (.cons ht .nil), fun x hx => (List.mem_append.mp hx).imp id List.mem_singleton.mp⟩
theorem put_nd {κ : Type} [DecidableEq κ] {kvs : List (κ × V)} {k : κ} {v : V} (h : (kvs.map (·.1)).Nodup) : ((putK kvs k v).map (·.1)).Nodup := by
  rw [put_keys]
  unfold addM
  split
  · exact h
  · exact nodup_snoc h ‹_›
theorem put_le {κ : Type} [DecidableEq κ] (kvs : List (κ × V)) (k : κ) (v : V) : (putK kvs k v).length ≤ kvs.length + 1 := by
  have := congrArg List.length (put_keys kvs k v)
  rw [List.length_map] at this
  rw [this]
  unfold addM
  split <;> simp
def EnM (m : Mk) (kv : Key × V) : Prop := kv = (Sum.inl m.1, .str m.2)
theorem paired_keys {κ α : Type} {R : α → κ × V → Prop} {f : α → κ} (hf : ∀ a kv, R a kv → kv.1 = f a) {S : List α} {kvs : List (κ × V)} (h : Paired R S kvs) : kvs.map (·.1) = S.map f := by
  induction h with
  | nil => rfl
  | cons r _ ih => rw [List.map_cons, List.map_cons, hf _ _ r, ih]
structure PlI (K : Frag) (H0 H : Hp) (ds de : Addr) (g : Str) (r : Int) (n : Nat) : Prop where
  same : Same H0 H
  ex : ∃ (S : List Stp) (kvs : List (List Key × V)) (E : List Mk) (kve : List (Key × V)), H ds = some (.dT kvs) ∧ H de = some (.dK kve) ∧ Paired (EnS K H) S kvs ∧ Paired EnM E kve ∧ (kvs.map (·.1)).Nodup ∧ (kve.map (·.1)).Nodup ∧ kvs.length ≤ n ∧ kve.length ≤ n ∧
    (∀ t ∈ S, 0 ≤ t.1 ∧ t.1 < r ∧ (∃ c ∈ cl g, t.2.1 = ⟨#[c]⟩) ∧ Wd t.2.2.1 ∧ 0 ≤ t.2.2.2 ∧ t.2.2.2 < r) ∧ ∀ m ∈ E, 0 ≤ m.1 ∧ m.1 < r ∧ Wd m.2
theorem PlI.mono {K : Frag} {H0 H H' : Hp} {ds de : Addr} {g : Str} {r : Int} {n m : Nat} (h : PlI K H0 H ds de g r n) (s : Same H H') (le : n ≤ m) : PlI K H0 H' ds de g r m := by
  obtain ⟨s0, S, kvs, E, kve, h1, h2, h3, h4, h5, h6, h7, h8, h9, h10⟩ := h
  exact ⟨s0.trans s, S, kvs, E, kve, s _ _ h1, s _ _ h2, paired_mono (fun _ _ => EnS.gt (GT.of s)) h3, h4, h5, h6, Nat.le_trans h7 le, Nat.le_trans h8 le, h9, h10⟩
theorem nodup_one {α : Type} {xs : List α} (h : xs.length ≤ 1) : xs.Nodup := by
  match xs, h with
  | [], _ => exact List.nodup_nil
  | [x], _ => simp
  | x :: y :: r, h => simp at h
theorem plain_po {K : Frag} {H : Hp} {S : List Stp} {kvs : List (List Key × V)} (h : Paired (EnS K H) S kvs) (nd : (kvs.map (·.1)).Nodup) : (S.map fun t => (t.1, t.2.1)).Nodup := by
  rw [paired_keys (f := keyT) (fun t kv h => h.1) h] at nd
  have e : S.map keyT = (S.map fun t => (t.1, t.2.1)).map (fun p => [Sum.inl p.1, Sum.inr p.2]) := by rw [List.map_map]; rfl
  rw [e] at nd
  exact List.Pairwise.of_map _ (fun a b z y => z (by rw [y])) nd
def spDrawP (K : Frag) : Sp := fun vs H Q _ => ∃ (a : Addr) (ns : List Int) (salt most : Int), vs = [.ref a, .int salt, .int most] ∧ SqL K H a (ns.map V.int) ∧ ns.length ≤ 63 ∧ 0 ≤ salt ∧ salt ≤ 8000 ∧ 0 ≤ most ∧ most ≤ 14 ∧ ∀ v H' s pb ps pe, NewS K H H' true 62 s v pb ps pe → Q v H'
theorem plain_of {s : Scr} {n : Nat} (ok : OkS true s n) : plainB s = true := by
  have h1 := ok.pb rfl
  have h2 : (outs s).Nodup := by
    unfold outs
    have e : (s.steps.map fun t => ([Sum.inl t.1, Sum.inr t.2.1] : List Key)) = (s.steps.map fun t => (t.1, t.2.1)).map fun p => [Sum.inl p.1, Sum.inr p.2] := by rw [List.map_map]; rfl
    rw [e]
    refine List.Pairwise.map _ (fun a b z y => z ?_) (ok.po rfl)
    injection y with y1 y2
    injection y1 with y1
    injection y2 with y2
    injection y2 with y2
    exact Prod.ext y1 y2
  have h3 : (lasts s).Nodup := by
    unfold lasts
    have e : (s.ends.map fun m => (Sum.inl m.1 : Key)) = (s.ends.map (·.1)).map Sum.inl := by rw [List.map_map]; rfl
    rw [e]
    exact List.Pairwise.map _ (fun a b z y => z (by injection y)) (ok.pe rfl)
  unfold plainB
  rw [decide_eq_false (show ¬ s.begins.length > 1 by omega), decide_eq_true h2, decide_eq_true h3]
  rfl
theorem okR_of {pl : Bool} {s : Scr} (ok : OkS pl s 62) (r1 : s.rooms ≤ 14) : OkR s :=
  ⟨Nat.le_trans ok.lb (by decide), Nat.le_trans ok.ls (by decide), Nat.le_trans ok.le (by decide), by omega, fun m hm => ⟨(ok.mb m hm).1, (ok.mb m hm).2.1⟩, fun t ht => ⟨(ok.ms t ht).1, (ok.ms t ht).2.1, (ok.ms t ht).2.2.2.2.1, (ok.ms t ht).2.2.2.2.2⟩, fun m hm => ⟨(ok.me m hm).1, (ok.me m hm).2.1⟩⟩
def spLaw (K : Frag) : Sp := fun vs H Q _ => ∃ (a : Addr) (ns : List Int), vs = [.ref a] ∧ SqL K H a (ns.map V.int) ∧ ns.length ≤ 63 ∧ ∀ H', Q (.bl true) H'
theorem wr_rch {s : Scr} {r : Int} {w : Str} (h : Wr s r w) : Rch s.ends s.steps 3 0 r := by
  induction h with
  | fin h => exact Rch.base h
  | step h _ ih => exact Rch.step (n := 3) (f := 0) h ih
theorem HdOk.wr {s : Scr} {W : List (Int × Str)} (h : HdOk s W) {r : Int} {w : Str} (hw : Wr s r w) : ∃ a, lookW W r = some a ∧ cl a <+: cl w := by
  induction hw with
  | @fin m hm =>
    obtain ⟨a, ha⟩ := look_mem ((h.keys m.1).mpr (Rch.base hm))
    exact ⟨a, ha, h.fin m hm a ha⟩
  | @step t w ht hw ih =>
    obtain ⟨b, hb, hp⟩ := ih
    obtain ⟨a, ha⟩ := look_mem ((h.keys t.1).mpr (Rch.step (n := 3) (f := 0) ht (wr_rch hw)))
    refine ⟨a, ha, (h.sat t ht a b ha hb).trans ?_⟩
    rw [cl_append, cl_append]
    obtain ⟨z, hz⟩ := hp
    exact ⟨z, by rw [List.append_assoc, hz]⟩
inductive Rc (rs : List Int) (ms : List (Int × Int)) : Int → Prop
  | base {r : Int} (h : r ∈ rs) : Rc rs ms r
  | step {m : Int × Int} (h : m ∈ ms) (q : Rc rs ms m.1) : Rc rs ms m.2
open Classical in
noncomputable def useN (s : Scr) (n : Nat) : List Int := ((List.range n).map fun k : Nat => (k : Int)).filter fun r => decide (Use s r)
open Classical in
open Classical in
open Classical in
theorem is_int {K : Frag} : kitOne K (.type "int") (.type "int") = some true := rfl
theorem is_intb {K : Frag} : kitOne K (.type "int") (.type "bool") = some false := rfl
def spWholeI (K : Frag) : Sp := fun vs H Q _ => ∃ i : Int, vs = [.int i] ∧ Q (.bl true) H
theorem place_some {us : List Int} {r : Int} (h : r ∈ us) : ∃ j, placeIn us r = some j ∧ us[j]? = some r ∧ ∀ m, m < j → us[m]? ≠ some r := by
  cases e : placeIn us r with
  | none =>
    unfold placeIn at e
    rw [List.idxOf?_eq_none_iff] at e
    exact absurd h e
  | some j =>
    unfold placeIn at e
    obtain ⟨h1, h2, h3⟩ := List.idxOf?_eq_some_iff.mp e
    refine ⟨j, rfl, by rw [List.getElem?_eq_getElem h1, h2], fun m hm z => ?_⟩
    obtain ⟨z1, z2⟩ := List.getElem?_eq_some_iff.mp z
    exact h3 m hm z2
def Kd (v : V) (c : Int) : Prop := (c = 0 ∧ ∃ i, v = .int i) ∨ (c = 1 ∧ ∃ x, v = .str x)
def spIsScr (K : Frag) : Sp := fun vs H Q _ => ∃ v s pb ps pe, vs = [v] ∧ ScV K H s v pb ps pe ∧ ∀ H', Same H H' → Q (.bl true) H'
theorem paired_mem2 {α β : Type} {R : α → β → Prop} {as : List α} {bs : List β} (h : Paired R as bs) : ∀ b ∈ bs, ∃ a ∈ as, R a b := by
  induction h with
  | nil => intro b hb; cases hb
  | cons r _ ih =>
    intro b hb
    rcases List.mem_cons.mp hb with z | z
    · subst z; exact ⟨_, List.mem_cons_self .., r⟩
    · obtain ⟨a, h1, h2⟩ := ih b z
      exact ⟨a, List.mem_cons_of_mem _ h1, h2⟩
theorem paired_two {α β : Type} {R : α → β → Prop} {as : List α} {bs : List β} (h : Paired R as bs) {i : Nat} {a : α} {b : β} (ha : as[i]? = some a) (hb : bs[i]? = some b) : R a b := by
  obtain ⟨a', h1, h2⟩ := paired_get h hb
  rw [ha] at h1
  cases h1
  exact h2
def RowOk (K : Frag) (H : Hp) (p : Addr) (cs : List Int) : Prop := ∃ X D', SqL K H p X ∧ Rep K H (.lst D') (.ref p) ∧ ∀ x ∈ X, ∃ b vs d, x = .ref b ∧ SqT K H b vs ∧ Paired Kd vs cs ∧ Rep K H d x ∧ isT d "tuple" = true
theorem RowOk.mk {K : Frag} {H : Hp} {p : Addr} {M : List Mk} {X : List V} (h1 : SqL K H p X) (h2 : Paired (MkV K H) M X) : RowOk K H p [0, 1] :=
  ⟨X, M.map dMk, h1, rep_lst h1 (notIn_mk (m := (0, "")) h2), fun x hx => by
    obtain ⟨m, _, hm⟩ := paired_mem2 h2 x hx
    obtain ⟨b, rfl, hb⟩ := id hm
    exact ⟨b, _, dMk m, rfl, hb, .cons (.inl ⟨rfl, _, rfl⟩) (.cons (.inr ⟨rfl, _, rfl⟩) .nil), MkV.rep hm, rfl⟩⟩
theorem RowOk.st {K : Frag} {H : Hp} {p : Addr} {S : List Stp} {X : List V} (h1 : SqL K H p X) (h2 : Paired (StV K H) S X) : RowOk K H p [0, 1, 1, 0] :=
  ⟨X, S.map dSt, h1, rep_lst h1 (reps_st h2), fun x hx => by
    obtain ⟨t, _, ht⟩ := paired_mem2 h2 x hx
    obtain ⟨b, rfl, hb⟩ := id ht
    exact ⟨b, _, dSt t, rfl, hb, .cons (.inl ⟨rfl, _, rfl⟩) (.cons (.inr ⟨rfl, _, rfl⟩) (.cons (.inr ⟨rfl, _, rfl⟩) (.cons (.inl ⟨rfl, _, rfl⟩) .nil))), StV.rep ht, rfl⟩⟩
theorem useL_le (s : Scr) : (useL s).length ≤ s.rooms.toNat := by
  unfold useL
  refine Nat.le_trans (List.length_filter_le _ _) ?_
  rw [List.length_map, List.length_range]; exact Nat.le_refl _
theorem trim_rooms (s : Scr) : (trimS s).rooms.toNat ≤ s.rooms.toNat := by
  show (((useL s).length : Nat) : Int).toNat ≤ _
  rw [Int.toNat_natCast]; exact useL_le s
def hdW (W : List (Int × Str)) (r : Int) : Str := (lookW W r).getD ""
def cutS (x : Str) (n : Nat) : Str := Txt.slice x (some (n : Int)) none
def eM (W : List (Int × Str)) (m : Mk) : Mk := (m.1, m.2 ++ hdW W m.1)
def eE (W : List (Int × Str)) (m : Mk) : Mk := (m.1, cutS m.2 (hdW W m.1).length)
def eS (W : List (Int × Str)) (u : Stp) : Stp := (u.1, u.2.1, cutS (u.2.2.1 ++ hdW W u.2.2.2) (hdW W u.1).length, u.2.2.2)
def earlW (t : Scr) (W : List (Int × Str)) : Scr := ⟨t.signs, t.rooms, t.begins.map (eM W), t.steps.map (eS W), t.ends.map (eE W)⟩
theorem hd_at {s : Scr} {W : List (Int × Str)} {n : Nat} {r : Int} {a : Str} (h0 : 0 ≤ r) (h1 : r < (n : Int)) (h : lookW W r = some a) : atI (headL s W n) r = some (.str (hdW W r)) := by
  obtain ⟨k, rfl⟩ := Int.eq_ofNat_of_zero_le h0
  refine atI_nat ?_
  unfold headL hdW
  rw [List.getElem?_map, List.getElem?_range (by omega), h]
  show some (optV (lookW W (k : Int))) = _
  rw [h]; rfl
def spEStep (K : Frag) : Sp := fun vs H Q _ => ∃ v u l t W, ∃ n : Nat, vs = [v, .ref l] ∧ StV K H u v ∧ H l = some (.lst (headL t W n)) ∧ 0 ≤ u.1 ∧ u.1 < (n : Int) ∧ 0 ≤ u.2.2.2 ∧ u.2.2.2 < (n : Int) ∧ (∃ a, lookW W u.1 = some a) ∧ (∃ a, lookW W u.2.2.2 = some a) ∧ u.2.2.1.length ≤ 9000 ∧ (∀ r, (hdW W r).length ≤ 90000) ∧ ∀ v' H', Same H H' → StV K H' (eS W u) v' → Q v' H'
theorem place_get {us : List Int} {r : Int} {j : Nat} (h : placeIn us r = some j) : us[j]? = some r := by
  unfold placeIn at h
  obtain ⟨h1, h2, _⟩ := List.idxOf?_eq_some_iff.mp h
  rw [List.getElem?_eq_getElem h1, h2]
theorem place_inj {us : List Int} {r r' : Int} {j : Nat} (h : placeIn us r = some j) (h' : placeIn us r' = some j) : r = r' := by
  have h1 := place_get h
  rw [place_get h'] at h1
  injection h1 with h1
  exact h1.symm
theorem mem_keptM {us : List Int} {M : List Mk} {m : Mk} : m ∈ keptM us M ↔ ∃ m0 ∈ M, ∃ j : Nat, placeIn us m0.1 = some j ∧ m = ((j : Int), m0.2) := by
  unfold keptM
  rw [List.mem_filterMap]
  constructor
  · rintro ⟨m0, h0, h1⟩
    cases hp : placeIn us m0.1 with
    | none => rw [hp] at h1; cases h1
    | some j =>
      rw [hp] at h1
      injection h1 with h1
      exact ⟨m0, h0, j, hp, h1.symm⟩
  · rintro ⟨m0, h0, j, hj, rfl⟩
    exact ⟨m0, h0, by rw [hj]; rfl⟩
theorem mem_keptS {us : List Int} {S : List Stp} {t : Stp} : t ∈ keptS us S ↔ ∃ u ∈ S, ∃ j k : Nat, placeIn us u.1 = some j ∧ placeIn us u.2.2.2 = some k ∧ t = ((j : Int), u.2.1, u.2.2.1, (k : Int)) := by
  unfold keptS
  rw [List.mem_map]
  constructor
  · rintro ⟨u, hu, rfl⟩
    obtain ⟨h1, h2⟩ := List.mem_filter.mp hu
    unfold inUs at h2
    rw [Bool.and_eq_true, Option.isSome_iff_exists, Option.isSome_iff_exists] at h2
    obtain ⟨⟨j, hj⟩, ⟨k, hk⟩⟩ := h2
    exact ⟨u, h1, j, k, hj, hk, by unfold newSt; rw [hj, hk]; rfl⟩
  · rintro ⟨u, hu, j, k, hj, hk, rfl⟩
    exact ⟨u, List.mem_filter.mpr ⟨hu, by unfold inUs; rw [hj, hk]; rfl⟩, by unfold newSt; rw [hj, hk]; rfl⟩
theorem keptM_nd {us : List Int} : ∀ {M : List Mk}, (M.map (·.1)).Nodup → ((keptM us M).map (·.1)).Nodup
  | [], _ => List.nodup_nil
  | m :: M, nd => by
    rw [List.map_cons, List.nodup_cons] at nd
    have ih := keptM_nd (us := us) nd.2
    cases h : placeIn us m.1 with
    | none =>
      have e : keptM us (m :: M) = keptM us M := by unfold keptM; rw [List.filterMap_cons, h]; rfl
      rw [e]; exact ih
    | some j =>
      have e : keptM us (m :: M) = ((j : Int), m.2) :: keptM us M := by unfold keptM; rw [List.filterMap_cons, h]; rfl
      rw [e, List.map_cons, List.nodup_cons]
      refine ⟨fun hj => ?_, ih⟩
      obtain ⟨m', hm', e'⟩ := List.mem_map.mp hj
      obtain ⟨m0, h0, k, hk, rfl⟩ := mem_keptM.mp hm'
      have ek : k = j := by have : ((k : Nat) : Int) = (j : Int) := e'; omega
      subst ek
      exact nd.1 (List.mem_map.mpr ⟨m0, h0, place_inj hk h⟩)
theorem keptS_nd {us : List Int} : ∀ {S : List Stp}, (S.map fun t => (t.1, t.2.1)).Nodup → ((keptS us S).map fun t => (t.1, t.2.1)).Nodup
  | [], _ => List.nodup_nil
  | u :: S, nd => by
    rw [List.map_cons, List.nodup_cons] at nd
    have ih := keptS_nd (us := us) nd.2
    by_cases h : inUs us u = true
    · have e : keptS us (u :: S) = newSt us u :: keptS us S := by unfold keptS; rw [List.filter_cons_of_pos h]; rfl
      rw [e, List.map_cons, List.nodup_cons]
      refine ⟨fun hj => ?_, ih⟩
      obtain ⟨t', ht', e'⟩ := List.mem_map.mp hj
      obtain ⟨u0, h0, j, k, hj0, hk0, rfl⟩ := mem_keptS.mp ht'
      unfold inUs at h
      rw [Bool.and_eq_true, Option.isSome_iff_exists] at h
      obtain ⟨⟨j1, hj1⟩, _⟩ := h
      unfold newSt at e'
      rw [hj1] at e'
      injection e' with e1 e2
      have ek : j = j1 := by have : ((j : Nat) : Int) = (j1 : Int) := e1; omega
      subst ek
      exact nd.1 (List.mem_map.mpr ⟨u0, h0, by rw [place_inj hj0 hj1]; exact Prod.ext rfl e2⟩)
    · have e : keptS us (u :: S) = keptS us S := by unfold keptS; rw [List.filter_cons_of_neg h]
      rw [e]; exact ih
theorem outs_nd {s : Scr} : (outs s).Nodup ↔ (s.steps.map fun t => (t.1, t.2.1)).Nodup := by
  have e : outs s = (s.steps.map fun t => (t.1, t.2.1)).map fun p => [Sum.inl p.1, Sum.inr p.2] := by unfold outs; rw [List.map_map]; rfl
  rw [e]
  constructor
  · intro h; exact List.Pairwise.of_map _ (fun a b z y => z (by rw [y])) h
  · intro h
    refine List.Pairwise.map _ (fun a b z y => z ?_) h
    injection y with y1 y2
    injection y1 with y1
    injection y2 with y2
    injection y2 with y2
    exact Prod.ext y1 y2
theorem lasts_nd {s : Scr} : (lasts s).Nodup ↔ (s.ends.map (·.1)).Nodup := by
  have e : lasts s = (s.ends.map (·.1)).map Sum.inl := by unfold lasts; rw [List.map_map]; rfl
  rw [e]
  exact ⟨fun h => List.Pairwise.of_map _ (fun a b z y => z (by rw [y])) h, fun h => List.Pairwise.map _ (fun a b z y => z (by injection y)) h⟩
theorem plain_iff {s : Scr} : plainB s = true ↔ s.begins.length ≤ 1 ∧ (s.steps.map fun t => (t.1, t.2.1)).Nodup ∧ (s.ends.map (·.1)).Nodup := by
  unfold plainB
  rw [Bool.and_eq_true, Bool.and_eq_true, decide_eq_true_eq, decide_eq_true_eq, outs_nd, lasts_nd, Bool.not_eq_true', decide_eq_false_iff_not, and_assoc]
  exact ⟨fun ⟨a, b⟩ => ⟨by omega, b⟩, fun ⟨a, b⟩ => ⟨by omega, b⟩⟩
theorem trim_plain {s : Scr} (h : plainB s = true) : plainB (trimS s) = true := by
  rw [plain_iff] at h ⊢
  exact ⟨Nat.le_trans (keptM_len _ _) h.1, keptS_nd h.2.1, keptM_nd h.2.2⟩
theorem place_lt {us : List Int} {r : Int} {j : Nat} (h : placeIn us r = some j) : j < us.length := (List.getElem?_eq_some_iff.mp (place_get h)).1
theorem keptS_len (us : List Int) (S : List Stp) : (keptS us S).length ≤ S.length := by
  unfold keptS
  rw [List.length_map]
  exact List.length_filter_le _ _
theorem trim_ok {s : Scr} (ok : OkR s) (h : s.rooms < 64) : OkR (trimS s) := by
  have hl := useL_len h
  refine ⟨Nat.le_trans (keptM_len _ _) ok.lb, Nat.le_trans (keptS_len _ _) ok.ls, Nat.le_trans (keptM_len _ _) ok.le, by show ((useL s).length : Int) ≤ 999; omega, fun m hm => ?_, fun t ht => ?_, fun m hm => ?_⟩
  · obtain ⟨m0, _, j, hj, rfl⟩ := mem_keptM.mp hm
    have := place_lt hj
    exact ⟨by show (0 : Int) ≤ (j : Int); omega, by show (j : Int) < ((useL s).length : Int); omega⟩
  · obtain ⟨u, _, j, k, hj, hk, rfl⟩ := mem_keptS.mp ht
    have := place_lt hj
    have := place_lt hk
    exact ⟨by show (0 : Int) ≤ (j : Int); omega, by show (j : Int) < ((useL s).length : Int); omega, by show (0 : Int) ≤ (k : Int); omega, by show (k : Int) < ((useL s).length : Int); omega⟩
  · obtain ⟨m0, _, j, hj, rfl⟩ := mem_keptM.mp hm
    have := place_lt hj
    exact ⟨by show (0 : Int) ≤ (j : Int); omega, by show (j : Int) < ((useL s).length : Int); omega⟩
theorem trim_wl {s : Scr} {L : Nat} (wl : WdL s L) : WdL (trimS s) L := by
  refine ⟨fun m hm => ?_, fun t ht => ?_, fun m hm => ?_⟩
  · obtain ⟨m0, h0, j, _, rfl⟩ := mem_keptM.mp hm; exact wl.wb m0 h0
  · obtain ⟨u, h0, j, k, _, _, rfl⟩ := mem_keptS.mp ht; exact wl.ws u h0
  · obtain ⟨m0, h0, j, _, rfl⟩ := mem_keptM.mp hm; exact wl.we m0 h0
theorem use_place {s : Scr} (ok : OkR s) {r : Int} (h : Use s r) : ∃ j, placeIn (useL s) r = some j := by
  obtain ⟨j, hj, _⟩ := place_some ((mem_useL ok r).mpr h)
  exact ⟨j, hj⟩
theorem place_use {s : Scr} (ok : OkR s) {r : Int} {j : Nat} (h : placeIn (useL s) r = some j) : Use s r := (mem_useL ok r).mp (List.mem_of_getElem? (place_get h))
theorem wr_down {s : Scr} (ok : OkR s) {r : Int} {w : Str} (h : Wr s r w) : Rch s.begins s.steps 0 3 r → ∀ j : Nat, placeIn (useL s) r = some j → Wr (trimS s) (j : Int) w := by
  induction h with
  | @fin m hm =>
    intro _ j hj
    exact Wr.fin (s := trimS s) (m := ((j : Int), m.2)) (mem_keptM.mpr ⟨m, hm, j, hj, rfl⟩)
  | @step t w ht hw ih =>
    intro hr j hj
    have hr2 : Rch s.begins s.steps 0 3 t.2.2.2 := Rch.step (n := 0) (f := 3) ht hr
    obtain ⟨k, hk⟩ := use_place ok (r := t.2.2.2) ⟨hr2, wr_rch hw⟩
    exact Wr.step (s := trimS s) (t := ((j : Int), t.2.1, t.2.2.1, (k : Int))) (mem_keptS.mpr ⟨t, ht, j, k, hj, hk, rfl⟩) (ih hr2 k hk)
theorem rch_wr {s : Scr} {r : Int} (h : Rch s.ends s.steps 3 0 r) : ∃ w, Wr s r w := by
  induction h with
  | base h => exact ⟨_, Wr.fin h⟩
  | @step t h _ ih =>
    obtain ⟨w, hw⟩ := ih
    exact ⟨_, Wr.step h hw⟩
theorem trim_key {s : Scr} (ok : OkR s) {W : List (Int × Str)} (hW : HdOk (trimS s) W) {r : Int} {j : Nat} (hj : placeIn (useL s) r = some j) : ∃ a, lookW W (j : Int) = some a := by
  have hu := place_use ok hj
  obtain ⟨w, hw⟩ := rch_wr hu.2
  obtain ⟨a, ha, _⟩ := hW.wr (wr_down ok hw hu.1 j hj)
  exact ⟨a, ha⟩
theorem hd_look {W : List (Int × Str)} {r : Int} {a : Str} (h : lookW W r = some a) : hdW W r = a := by unfold hdW; rw [h]; rfl
theorem hd_len {s : Scr} {W : List (Int × Str)} (h : HdOk s W) (r : Int) : (hdW W r).length ≤ 90000 := by
  unfold hdW
  cases e : lookW W r with
  | none => exact Nat.zero_le _
  | some a => exact h.len r a e
def spEarliest (K : Frag) (c : Addr) : Sp := fun vs H Q E => ∃ v s pb ps pe L, vs = [v] ∧ ScV K H s v pb ps pe ∧ OkR s ∧ 0 ≤ s.rooms ∧ s.rooms < 64 ∧ WdL s L ∧ (L * s.rooms.toNat ≤ 90000 ∧ L ≤ 9000) ∧
  (plainB s = true → ∀ v' H' pb' ps' pe' W, HdOk (trimS s) W → (∀ r a, lookW W r = some a → a.length ≤ L * s.rooms.toNat) → Same H H' → ScN K H' (earlW (trimS s) W) v' pb' ps' pe' → Apart H pb' ps' pe' → Q v' H') ∧ (plainB s = false → ∀ H', Same H H' → E (.ref c) none H')
noncomputable def hU (s : Scr) (V : List (Int × Str)) (k : Int) : Str := hdW V (((useL s)[k.toNat]?).getD 0)
theorem cutS_cl {x : Str} {n : Nat} (h : n ≤ x.length) : cl (cutS x n) = (cl x).drop n := by
  unfold cutS
  rw [cl_slice, HT.sIx_nat, HT.sIx_none, Nat.min_eq_left h, List.take_of_length_le (by rw [List.length_drop, cl_length]; exact Nat.le_refl _)]
theorem cutS_le (x : Str) (n : Nat) : (cutS x n).length ≤ x.length := Txt.slice_le _ _ _
theorem pre_cut {a x : Str} (h : cl a <+: cl x) : x = a ++ cutS x a.length := by
  have hl := h.length_le
  rw [cl_length, cl_length] at hl
  obtain ⟨t, ht⟩ := h
  refine str_ext ?_
  rw [cl_append, cutS_cl hl, ← ht, ← cl_length a, List.drop_left]
theorem wr_early {t : Scr} {W : List (Int × Str)} (hW : HdOk t W) {r : Int} {w : Str} (h : Wr t r w) : ∃ w', w = hdW W r ++ w' ∧ Wr (earlW t W) r w' := by
  induction h with
  | @fin m hm =>
    obtain ⟨a, ha⟩ := look_mem ((hW.keys m.1).mpr (Rch.base hm))
    have hp := hW.fin m hm a ha
    rw [← hd_look ha] at hp
    exact ⟨cutS m.2 (hdW W m.1).length, pre_cut hp, Wr.fin (s := earlW t W) (m := eE W m) (List.mem_map.mpr ⟨m, hm, rfl⟩)⟩
  | @step u w hu hw ih =>
    obtain ⟨w', e, hw'⟩ := ih
    obtain ⟨b, hb, _⟩ := hW.wr hw
    obtain ⟨a, ha, _⟩ := hW.wr (Wr.step hu hw)
    have hp := hW.sat u hu a b ha hb
    rw [← hd_look ha, ← hd_look hb] at hp
    refine ⟨cutS (u.2.2.1 ++ hdW W u.2.2.2) (hdW W u.1).length ++ w', ?_, Wr.step (s := earlW t W) (t := eS W u) (List.mem_map.mpr ⟨u, hu, rfl⟩) hw'⟩
    rw [e, ← app_assoc, ← app_assoc]
    exact congrArg (· ++ w') (pre_cut hp)
theorem rch_map {M M' : List Mk} {S S' : List Stp} (hM : ∀ m ∈ M, ∃ m' ∈ M', m'.1 = m.1) (hS : ∀ t ∈ S, ∃ t' ∈ S', t'.1 = t.1 ∧ t'.2.2.2 = t.2.2.2) {n f r : Int} (h : Rch M S n f r) : Rch M' S' n f r := by
  induction h with
  | base hm =>
    obtain ⟨m', h1, h2⟩ := hM _ hm
    rw [← h2]; exact Rch.base h1
  | @step t ht _ ih =>
    obtain ⟨t', h1, h2, h3⟩ := hS _ ht
    have e : ∀ k, sideOf k t' = sideOf k t := fun k => by unfold sideOf; rw [h2, h3]
    rw [← e f]
    rw [← e n] at ih
    exact Rch.step h1 ih
theorem early_m {W : List (Int × Str)} {M : List Mk} {f : Mk → Mk} (hf : ∀ m, (f m).1 = m.1) : (∀ m ∈ M, ∃ m' ∈ M.map f, m'.1 = m.1) ∧ ∀ m ∈ M.map f, ∃ m' ∈ M, m'.1 = m.1 :=
  ⟨fun m hm => ⟨f m, List.mem_map.mpr ⟨m, hm, rfl⟩, hf m⟩, fun m hm => by obtain ⟨m', h, rfl⟩ := List.mem_map.mp hm; exact ⟨m', h, (hf m').symm⟩⟩
theorem early_s (W : List (Int × Str)) (S : List Stp) : (∀ t ∈ S, ∃ t' ∈ S.map (eS W), t'.1 = t.1 ∧ t'.2.2.2 = t.2.2.2) ∧ ∀ t ∈ S.map (eS W), ∃ t' ∈ S, t'.1 = t.1 ∧ t'.2.2.2 = t.2.2.2 :=
  ⟨fun t ht => ⟨eS W t, List.mem_map.mpr ⟨t, ht, rfl⟩, rfl, rfl⟩, fun t ht => by obtain ⟨t', h, rfl⟩ := List.mem_map.mp ht; exact ⟨t', h, rfl, rfl⟩⟩
theorem rch_early {t : Scr} (W : List (Int × Str)) {r : Int} : Rch (earlW t W).ends (earlW t W).steps 3 0 r ↔ Rch t.ends t.steps 3 0 r :=
  ⟨rch_map (early_m (W := W) (f := eE W) fun _ => rfl).2 (early_s W _).2, rch_map (early_m (W := W) (f := eE W) fun _ => rfl).1 (early_s W _).1⟩
open Classical in
theorem trim_use {s : Scr} (ok : OkR s) {r : Int} (h : Rch s.begins s.steps 0 3 r) : Rch s.ends s.steps 3 0 r → ∀ j : Nat, placeIn (useL s) r = some j → Rch (trimS s).begins (trimS s).steps 0 3 (j : Int) := by
  induction h with
  | @base m hm =>
    intro _ j hj
    exact Rch.base (m := ((j : Int), m.2)) (mem_keptM.mpr ⟨m, hm, j, hj, rfl⟩)
  | @step t ht hr ih =>
    intro he j hj
    have he1 : Rch s.ends s.steps 3 0 t.1 := Rch.step (n := 3) (f := 0) ht he
    obtain ⟨i, hi⟩ := use_place ok (r := t.1) ⟨hr, he1⟩
    exact Rch.step (n := 0) (f := 3) (t := ((i : Int), t.2.1, t.2.2.1, (j : Int))) (mem_keptS.mpr ⟨t, ht, i, j, hi, hj, rfl⟩) (ih he1 i hi)
theorem trim_used {s : Scr} (ok : OkR s) {k : Int} (h0 : 0 ≤ k) (h1 : k < (trimS s).rooms) : Use (trimS s) k := by
  obtain ⟨j, rfl⟩ := Int.eq_ofNat_of_zero_le h0
  have hj : j < (useL s).length := by have : ((j : Nat) : Int) < ((useL s).length : Int) := h1; omega
  have hm : (useL s)[j] ∈ useL s := List.getElem_mem hj
  obtain ⟨i, hi, hi2, _⟩ := place_some hm
  have hij : i = j := by
    obtain ⟨a, b⟩ := List.getElem?_eq_some_iff.mp hi2
    rcases Nat.lt_trichotomy i j with c | c | c
    · have := List.pairwise_iff_getElem.mp (useL_sorted s) i j a hj c
      omega
    · exact c
    · have := List.pairwise_iff_getElem.mp (useL_sorted s) j i hj a c
      omega
  subst hij
  obtain ⟨u1, u2⟩ := (mem_useL ok _).mp hm
  refine ⟨trim_use ok u1 u2 i hi, ?_⟩
  obtain ⟨w, hw⟩ := rch_wr u2
  exact wr_rch (wr_down ok hw u1 i hi)
theorem early_ok {t : Scr} (W : List (Int × Str)) (ok : OkR t) : OkR (earlW t W) := by
  refine ⟨?_, ?_, ?_, ok.lr, fun m hm => ?_, fun u hu => ?_, fun m hm => ?_⟩
  · show (t.begins.map (eM W)).length ≤ 999; rw [List.length_map]; exact ok.lb
  · show (t.steps.map (eS W)).length ≤ 999; rw [List.length_map]; exact ok.ls
  · show (t.ends.map (eE W)).length ≤ 999; rw [List.length_map]; exact ok.le
  · obtain ⟨m', h, rfl⟩ := List.mem_map.mp (show m ∈ t.begins.map (eM W) from hm); exact ok.mb m' h
  · obtain ⟨m', h, rfl⟩ := List.mem_map.mp (show u ∈ t.steps.map (eS W) from hu); exact ok.ms m' h
  · obtain ⟨m', h, rfl⟩ := List.mem_map.mp (show m ∈ t.ends.map (eE W) from hm); exact ok.me m' h
theorem early_plain {t : Scr} (W : List (Int × Str)) (h : plainB t = true) : plainB (earlW t W) = true := by
  rw [plain_iff] at h ⊢
  refine ⟨?_, ?_, ?_⟩
  · show (t.begins.map (eM W)).length ≤ 1; rw [List.length_map]; exact h.1
  · show ((t.steps.map (eS W)).map fun t => (t.1, t.2.1)).Nodup; rw [List.map_map]; exact h.2.1
  · show ((t.ends.map (eE W)).map (·.1)).Nodup; rw [List.map_map]; exact h.2.2
theorem early_wl {t : Scr} {W : List (Int × Str)} {n m : Nat} (wl : WdL t n) (h : ∀ r, (hdW W r).length ≤ m) : WdL (earlW t W) (n + m) := by
  refine ⟨fun x hx => ?_, fun x hx => ?_, fun x hx => ?_⟩
  · obtain ⟨y, hy, rfl⟩ := List.mem_map.mp (show x ∈ t.begins.map (eM W) from hx)
    show (y.2 ++ hdW W y.1).length ≤ _
    rw [len_app]; have := wl.wb y hy; have := h y.1; omega
  · obtain ⟨y, hy, rfl⟩ := List.mem_map.mp (show x ∈ t.steps.map (eS W) from hx)
    show (cutS (y.2.2.1 ++ hdW W y.2.2.2) _).length ≤ _
    refine Nat.le_trans (cutS_le _ _) ?_
    rw [len_app]; have := wl.ws y hy; have := h y.2.2.2; omega
  · obtain ⟨y, hy, rfl⟩ := List.mem_map.mp (show x ∈ t.ends.map (eE W) from hx)
    show (cutS y.2 _).length ≤ _
    refine Nat.le_trans (cutS_le _ _) ?_
    have := wl.we y hy; omega
def spText5 (K : Frag) : Sp := fun vs H Q _ => ∃ (a : Addr) (ns : List Int) (g : Str) (n : Int), vs = [.ref a, .str g, .int n] ∧ SqL K H a (ns.map V.int) ∧ 1 ≤ g.length ∧ g.length ≤ 26 ∧ 0 ≤ n ∧ n ≤ 50 ∧ ∀ x : Str, x.length ≤ 50 → Q (.str x) H
theorem paired_getL {α β : Type} {F : α → β → Prop} {xs : List α} {ys : List β} {i : Nat} {x : α} (h : Paired F xs ys) (hx : xs[i]? = some x) : ∃ y, ys[i]? = some y ∧ F x y := by
  have hi : i < ys.length := by rw [← h.length]; exact (List.getElem?_eq_some_iff.mp hx).1
  obtain ⟨x', h1, h2⟩ := paired_get h (List.getElem?_eq_getElem hi)
  rw [hx] at h1
  cases h1
  exact ⟨_, List.getElem?_eq_getElem hi, h2⟩
def runGo (S : List Stp) : List Nat → Int → Str → Option (Int × Str)
  | [], r, w => some (r, w)
  | c :: x, r, w => match S.find? (fun t => decide (t.1 = r) && decide (t.2.1 = ⟨#[c]⟩)) with
    | none => none
    | some t => runGo S x t.2.2.2 (w ++ t.2.2.1)
def endW (E : List Mk) (p : Int × Str) : Option Str := (E.find? fun m => decide (m.1 = p.1)).map fun m => p.2 ++ m.2
def runS (s : Scr) (x : Str) : Option Str := match s.begins with
  | [] => none
  | b :: _ => (runGo s.steps (cl x) b.1 b.2).bind (endW s.ends)
theorem find_uniq {α : Type} {p : α → Bool} {u : α} : ∀ {S : List α}, (∀ v ∈ S, p v = true → v = u) → u ∈ S → p u = true → S.find? p = some u
  | [], _, h, _ => nomatch h
  | v :: S, hu, h, hp => by
    rw [List.find?_cons]
    by_cases c : p v = true
    · rw [c, hu v (List.mem_cons_self ..) c]
    · rw [Bool.not_eq_true] at c
      rw [c]
      rcases List.mem_cons.mp h with e | h
      · rw [e, c] at hp; cases hp
      · exact find_uniq (fun w hw => hu w (List.mem_cons_of_mem _ hw)) h hp
theorem key_inj {α β : Type} {f : α → β} : ∀ {S : List α}, (S.map f).Nodup → ∀ {u v : α}, u ∈ S → v ∈ S → f u = f v → u = v
  | [], _, _, _, h, _, _ => nomatch h
  | a :: S, nd, u, v, hu, hv, e => by
    rw [List.map_cons, List.nodup_cons] at nd
    rcases List.mem_cons.mp hu with h1 | h1
    · rcases List.mem_cons.mp hv with h2 | h2
      · rw [h1, h2]
      · exact absurd (List.mem_map.mpr ⟨v, h2, by rw [← e, h1]⟩) nd.1
    · rcases List.mem_cons.mp hv with h2 | h2
      · exact absurd (List.mem_map.mpr ⟨u, h1, by rw [e, h2]⟩) nd.1
      · exact key_inj nd.2 h1 h2 e
def stP (r : Int) (c : Nat) (t : Stp) : Bool := decide (t.1 = r) && decide (t.2.1 = ⟨#[c]⟩)
theorem stP_iff {r : Int} {c : Nat} {t : Stp} : stP r c t = true ↔ t.1 = r ∧ t.2.1 = ⟨#[c]⟩ := by
  unfold stP
  rw [Bool.and_eq_true, decide_eq_true_eq, decide_eq_true_eq]
theorem go_cons {S : List Stp} {c : Nat} {x : List Nat} {r : Int} {w : Str} : runGo S (c :: x) r w = match S.find? (stP r c) with
    | none => none
    | some t => runGo S x t.2.2.2 (w ++ t.2.2.1) := rfl
theorem find_step {s : Scr} (h : plainB s = true) {r : Int} {c : Nat} {t : Stp} (ht : t ∈ s.steps) (hp : stP r c t = true) : s.steps.find? (stP r c) = some t := by
  have nd := (plain_iff.mp h).2.1
  obtain ⟨e1, e2⟩ := stP_iff.mp hp
  refine find_uniq (fun v hv hv2 => ?_) ht hp
  obtain ⟨f1, f2⟩ := stP_iff.mp hv2
  exact key_inj nd hv ht (by show (v.1, v.2.1) = (t.1, t.2.1); rw [f1, f2, e1, e2])
theorem find_end {s : Scr} (h : plainB s = true) {r : Int} {m : Mk} (hm : m ∈ s.ends) (e : m.1 = r) : (s.ends.find? fun m => decide (m.1 = r)) = some m :=
  find_uniq (fun v hv hv2 => key_inj (plain_iff.mp h).2.2 hv hm (by rw [e]; exact of_decide_eq_true hv2)) hm (decide_eq_true e)
theorem go_rch {s : Scr} : ∀ (x : List Nat) (r : Int) (w y : Str), (runGo s.steps x r w).bind (endW s.ends) = some y → Rch s.ends s.steps 3 0 r
  | [], r, w, y, h => by
    have h : endW s.ends (r, w) = some y := h
    unfold endW at h
    obtain ⟨m, hm, _⟩ := Option.map_eq_some_iff.mp h
    have h2 := List.find?_some hm
    have e : m.1 = r := of_decide_eq_true (by exact h2)
    rw [← e]
    exact Rch.base (List.mem_of_find?_eq_some hm)
  | c :: x, r, w, y, h => by
    rw [go_cons] at h
    cases hf : s.steps.find? (stP r c) with
    | none => rw [hf] at h; cases h
    | some t =>
      rw [hf] at h
      have := go_rch x _ _ y h
      have hr := (stP_iff.mp (List.find?_some hf)).1
      rw [← hr]
      exact Rch.step (n := 3) (f := 0) (List.mem_of_find?_eq_some hf) this
theorem go_trim {s : Scr} (ok : OkR s) (hp : plainB s = true) : ∀ (x : List Nat) (r : Int) (j : Nat) (w : Str), Rch s.begins s.steps 0 3 r → placeIn (useL s) r = some j →
    (runGo (trimS s).steps x (j : Int) w).bind (endW (trimS s).ends) = (runGo s.steps x r w).bind (endW s.ends)
  | [], r, j, w, hr, hj => by
    show endW (trimS s).ends ((j : Int), w) = endW s.ends (r, w)
    unfold endW
    cases hf : s.ends.find? fun m => decide (m.1 = r) with
    | some m =>
      have h2 := List.find?_some hf
      have e : m.1 = r := of_decide_eq_true (by exact h2)
      have hm : ((j : Int), m.2) ∈ (trimS s).ends := mem_keptM.mpr ⟨m, List.mem_of_find?_eq_some hf, j, by rw [e]; exact hj, rfl⟩
      rw [find_end (trim_plain hp) hm rfl]; rfl
    | none =>
      have hn : ((trimS s).ends.find? fun m => decide (m.1 = ((j : Int), w).1)) = none := by
        rw [List.find?_eq_none]
        rintro m hm e
        have e : m.1 = (j : Int) := of_decide_eq_true (by exact e)
        obtain ⟨m0, h0, k, hk, rfl⟩ := mem_keptM.mp hm
        have ek : k = j := by have : ((k : Nat) : Int) = (j : Int) := e; omega
        subst ek
        have := List.find?_eq_none.mp hf m0 h0
        exact this (decide_eq_true (place_inj hk hj))
      rw [hn]
  | c :: x, r, j, w, hr, hj => by
    rw [go_cons, go_cons]
    have back : ∀ t ∈ (trimS s).steps, stP (j : Int) c t = true → ∃ u ∈ s.steps, stP r c u = true ∧ ∃ k : Nat, placeIn (useL s) u.2.2.2 = some k ∧ t = ((j : Int), u.2.1, u.2.2.1, (k : Int)) := fun t ht hp2 => by
      obtain ⟨u, hu, i, k, hi, hk, rfl⟩ := mem_keptS.mp ht
      obtain ⟨e1, e2⟩ := stP_iff.mp hp2
      have ei : i = j := by have : ((i : Nat) : Int) = (j : Int) := e1; omega
      subst ei
      exact ⟨u, hu, stP_iff.mpr ⟨place_inj hi hj, e2⟩, k, hk, rfl⟩
    cases hf : s.steps.find? (stP r c) with
    | none =>
      have hn : (trimS s).steps.find? (stP (j : Int) c) = none := by
        rw [List.find?_eq_none]
        intro t ht e
        obtain ⟨u, hu, hu2, _⟩ := back t ht e
        exact List.find?_eq_none.mp hf u hu hu2
      rw [hn]; rfl
    | some u =>
      have hu := List.mem_of_find?_eq_some hf
      have hu2 := List.find?_some hf
      have hur : u.1 = r := (stP_iff.mp hu2).1
      have hg : Rch s.begins s.steps 0 3 u.2.2.2 := Rch.step (n := 0) (f := 3) hu (by show Rch s.begins s.steps 0 3 u.1; rw [hur]; exact hr)
      cases hk : placeIn (useL s) u.2.2.2 with
      | some k =>
        have ht : ((j : Int), u.2.1, u.2.2.1, (k : Int)) ∈ (trimS s).steps := mem_keptS.mpr ⟨u, hu, j, k, by rw [hur]; exact hj, hk, rfl⟩
        rw [find_step (trim_plain hp) ht (stP_iff.mpr ⟨rfl, (stP_iff.mp hu2).2⟩)]
        exact go_trim ok hp x u.2.2.2 k (w ++ u.2.2.1) hg hk
      | none =>
        have hn : (trimS s).steps.find? (stP (j : Int) c) = none := by
          rw [List.find?_eq_none]
          intro t ht e
          obtain ⟨u', hu', hu2', k, hk', _⟩ := back t ht e
          have := find_step hp hu' hu2'
          rw [hf] at this
          injection this with this
          rw [← this, hk] at hk'; cases hk'
        rw [hn]
        show none = (runGo s.steps x u.2.2.2 (w ++ u.2.2.1)).bind (endW s.ends)
        cases hz : (runGo s.steps x u.2.2.2 (w ++ u.2.2.1)).bind (endW s.ends) with
        | none => rfl
        | some y =>
          obtain ⟨k, hk'⟩ := use_place ok ⟨hg, go_rch x _ _ y hz⟩
          rw [hk] at hk'; cases hk'
theorem run_trim {s : Scr} (ok : OkR s) (hp : plainB s = true) (x : Str) : runS (trimS s) x = runS s x := by
  have hl := (plain_iff.mp hp).1
  unfold runS
  cases hb : s.begins with
  | nil =>
    have : (trimS s).begins = [] := by show keptM (useL s) s.begins = []; rw [hb]; rfl
    rw [this]
  | cons b B =>
    rw [hb, List.length_cons] at hl
    have hB : B = [] := List.eq_nil_of_length_eq_zero (by omega)
    subst hB
    have hr : Rch s.begins s.steps 0 3 b.1 := Rch.base (by rw [hb]; exact List.mem_cons_self ..)
    cases hj : placeIn (useL s) b.1 with
    | some j =>
      have : (trimS s).begins = [((j : Int), b.2)] := by show keptM (useL s) s.begins = _; rw [hb]; unfold keptM; rw [List.filterMap_cons, hj]; rfl
      rw [this]
      exact go_trim ok hp (cl x) b.1 j b.2 hr hj
    | none =>
      have : (trimS s).begins = [] := by show keptM (useL s) s.begins = _; rw [hb]; unfold keptM; rw [List.filterMap_cons, hj]; rfl
      rw [this]
      show none = (runGo s.steps (cl x) b.1 b.2).bind (endW s.ends)
      cases hz : (runGo s.steps (cl x) b.1 b.2).bind (endW s.ends) with
      | none => rfl
      | some y =>
        obtain ⟨k, hk'⟩ := use_place ok ⟨hr, go_rch _ _ _ y hz⟩
        rw [hj] at hk'; cases hk'
theorem find_map {α β : Type} {f : α → β} {p : β → Bool} {q : α → Bool} (h : ∀ a, p (f a) = q a) : ∀ S : List α, (S.map f).find? p = (S.find? q).map f
  | [] => rfl
  | a :: S => by
    rw [List.map_cons, List.find?_cons, List.find?_cons, h a]
    cases q a with
    | true => rfl
    | false => exact find_map h S
theorem go_early {t : Scr} {W : List (Int × Str)} (hW : HdOk t W) (hS : ∀ u ∈ t.steps, (∃ a, lookW W u.1 = some a) ∧ ∃ a, lookW W u.2.2.2 = some a) (hE : ∀ m ∈ t.ends, ∃ a, lookW W m.1 = some a) : ∀ (x : List Nat) (r : Int) (w : Str),
    (runGo (earlW t W).steps x r (w ++ hdW W r)).bind (endW (earlW t W).ends) = (runGo t.steps x r w).bind (endW t.ends)
  | [], r, w => by
    show endW (t.ends.map (eE W)) (r, w ++ hdW W r) = endW t.ends (r, w)
    unfold endW
    rw [find_map (f := eE W) (q := fun m => decide (m.1 = r)) (fun _ => rfl)]
    cases hf : t.ends.find? fun m => decide (m.1 = r) with
    | none => rfl
    | some m =>
      have h2 := List.find?_some hf
      have e : m.1 = r := of_decide_eq_true (by exact h2)
      have hm := List.mem_of_find?_eq_some hf
      obtain ⟨a, ha⟩ := hE m hm
      have hp := hW.fin m hm a ha
      rw [← hd_look ha] at hp
      show some ((w ++ hdW W r) ++ cutS m.2 (hdW W m.1).length) = some (w ++ m.2)
      rw [← e, app_assoc, ← pre_cut hp]
  | c :: x, r, w => by
    rw [go_cons, go_cons]
    show (match (t.steps.map (eS W)).find? (stP r c) with | none => none | some u => runGo (earlW t W).steps x u.2.2.2 (w ++ hdW W r ++ u.2.2.1)).bind _ = _
    rw [find_map (f := eS W) (q := stP r c) (fun _ => rfl)]
    cases hf : t.steps.find? (stP r c) with
    | none => rfl
    | some u =>
      have hu := List.mem_of_find?_eq_some hf
      have hur : u.1 = r := (stP_iff.mp (List.find?_some hf)).1
      obtain ⟨⟨a, ha⟩, b, hb⟩ := hS u hu
      have hp := hW.sat u hu a b ha hb
      rw [← hd_look ha, ← hd_look hb] at hp
      have e : w ++ hdW W r ++ (eS W u).2.2.1 = (w ++ u.2.2.1) ++ hdW W u.2.2.2 := by
        show w ++ hdW W r ++ cutS (u.2.2.1 ++ hdW W u.2.2.2) (hdW W u.1).length = _
        rw [← hur, app_assoc, ← pre_cut hp, app_assoc]
      show (runGo (earlW t W).steps x u.2.2.2 (w ++ hdW W r ++ (eS W u).2.2.1)).bind _ = _
      rw [e]
      exact go_early hW hS hE x u.2.2.2 (w ++ u.2.2.1)
theorem run_early {t : Scr} {W : List (Int × Str)} (hW : HdOk t W) (hS : ∀ u ∈ t.steps, (∃ a, lookW W u.1 = some a) ∧ ∃ a, lookW W u.2.2.2 = some a) (hE : ∀ m ∈ t.ends, ∃ a, lookW W m.1 = some a) (x : Str) : runS (earlW t W) x = runS t x := by
  unfold runS
  show (match t.begins.map (eM W) with | [] => none | b :: _ => _) = _
  cases t.begins with
  | nil => rfl
  | cons b B => exact go_early hW hS hE (cl x) b.1 b.2
def fst1 (w : Str) : Str := Txt.slice w none (some 1)
structure Fcl (e : Scr) (F : Int → List Str) : Prop where
  nd : ∀ r, (F r).Nodup
  en : ∀ m ∈ e.ends, fst1 m.2 ∈ F m.1
  on : ∀ u ∈ e.steps, u.2.2.1 ≠ "" → F u.2.2.2 ≠ [] → fst1 u.2.2.1 ∈ F u.1
  of : ∀ u ∈ e.steps, u.2.2.1 = "" → ∀ c ∈ F u.2.2.2, c ∈ F u.1
theorem fst1_cl (w : Str) : cl (fst1 w) = (cl w).take 1 := by
  unfold fst1
  rw [cl_slice, HT.sIx_none, show (some 1 : Option Int) = some ((1 : Nat) : Int) from rfl, HT.sIx_nat, List.drop_zero, Nat.sub_zero, ← cl_length]
  rcases Nat.eq_zero_or_pos (cl w).length with h | h
  · rw [List.eq_nil_of_length_eq_zero h]; rfl
  · rw [Nat.min_eq_left (by omega)]
theorem fst1_app {a b : Str} (h : a ≠ "") : fst1 (a ++ b) = fst1 a := by
  refine str_ext ?_
  rw [fst1_cl, fst1_cl, cl_append]
  cases ha : cl a with
  | nil => exact absurd (str_ext (by rw [ha]; decide +kernel)) h
  | cons c l => rfl
theorem fst1_pre {w c : Str} (h : fst1 w = c) : cl c <+: cl w := by
  rw [← h, fst1_cl]; exact List.take_prefix _ _
theorem Fcl.wr {e : Scr} {F : Int → List Str} (hF : Fcl e F) {r : Int} {w : Str} (h : Wr e r w) : fst1 w ∈ F r := by
  induction h with
  | @fin m hm => exact hF.en m hm
  | @step u w hu hw ih =>
    by_cases c : u.2.2.1 = ""
    · rw [c, nil_app]; exact hF.of u hu c _ ih
    · rw [fst1_app c]; exact hF.on u hu c (fun z => by rw [z] at ih; cases ih)
def cc1 (F : Int → List Str) (r : Int) : Str := match F r with
  | [c] => c
  | _ => ""
theorem firsts_good {t : Scr} {W : List (Int × Str)} (hW : HdOk t W) {F : Int → List Str} (hF : Fcl (earlW t W) F) {r : Int} (hr : Rch t.ends t.steps 3 0 r) : ("" : Str) ∈ F r ∨ 2 ≤ (F r).length := by
  obtain ⟨a, ha⟩ := look_mem ((hW.keys r).mpr hr)
  have one : ∀ {r : Int} {w' : Str}, Wr (earlW t W) r w' → cl (cc1 F r) <+: cl w' := fun {r w'} h => by
    have hm := hF.wr h
    unfold cc1
    split
    · rename_i c hc
      rw [hc, List.mem_singleton] at hm
      exact fst1_pre hm
    · rw [show cl ("" : Str) = [] by decide +kernel]; exact List.nil_prefix
  have ne : ∀ {r : Int}, Rch t.ends t.steps 3 0 r → F r ≠ [] := fun {r} h z => by
    obtain ⟨w, hw⟩ := rch_wr ((rch_early W).mpr h)
    have := hF.wr hw
    rw [z] at this; cases this
  have low := hW.low (fun r => hdW W r ++ cc1 F r) (fun r w hw => ?_) (fun u hu k1 k2 => ?_) r a ha
  · replace low : cl (hdW W r ++ cc1 F r) <+: cl a := low
    have hl := low.length_le
    rw [cl_append, List.length_append, hd_look ha] at hl
    have hc : cc1 F r = "" := str_ext (by rw [show cl ("" : Str) = [] by decide +kernel]; exact List.eq_nil_of_length_eq_zero (by omega))
    have hn := ne hr
    unfold cc1 at hc
    cases hf : F r with
    | nil => exact absurd hf hn
    | cons c L =>
      cases L with
      | nil => rw [hf] at hc; exact .inl (by rw [show c = "" from hc]; exact List.mem_cons_self ..)
      | cons d L => exact .inr (by simp)
  · obtain ⟨w', rfl, hw'⟩ := wr_early hW hw
    show cl (hdW W r ++ cc1 F r) <+: cl (hdW W r ++ w')
    rw [cl_append, cl_append]
    obtain ⟨z, hz⟩ := one hw'
    exact ⟨z, by rw [List.append_assoc, hz]⟩
  · obtain ⟨a1, h1⟩ := look_mem k1
    obtain ⟨b1, h2⟩ := look_mem k2
    have hp := hW.sat u hu a1 b1 h1 h2
    rw [← hd_look h1, ← hd_look h2] at hp
    show cl (hdW W u.1 ++ cc1 F u.1) <+: cl (u.2.2.1 ++ (hdW W u.2.2.2 ++ cc1 F u.2.2.2))
    have e := pre_cut hp
    rw [← app_assoc, e, app_assoc, cl_append, cl_append (hdW W u.1)]
    have key : cl (cc1 F u.1) <+: cl (cutS (u.2.2.1 ++ hdW W u.2.2.2) (hdW W u.1).length ++ cc1 F u.2.2.2) := by
      have hu' : eS W u ∈ (earlW t W).steps := List.mem_map.mpr ⟨u, hu, rfl⟩
      have n2 := ne ((hW.keys _).mp k2)
      generalize hz : cutS (u.2.2.1 ++ hdW W u.2.2.2) (hdW W u.1).length = z
      have hz' : (eS W u).2.2.1 = z := hz
      unfold cc1
      split
      · rename_i c hc
        by_cases cz : z = ""
        · have h3 := hF.of _ hu' (by rw [hz', cz])
          replace h3 : ∀ d ∈ F u.2.2.2, d ∈ F u.1 := h3
          have nd := hF.nd u.2.2.2
          have e3 : F u.2.2.2 = [c] := by
            cases hf : F u.2.2.2 with
            | nil => exact absurd hf n2
            | cons d L =>
              rw [hf, hc] at h3
              rw [hf, List.nodup_cons] at nd
              have hd : d = c := List.mem_singleton.mp (h3 d (List.mem_cons_self ..))
              cases L with
              | nil => rw [hd]
              | cons d2 L2 =>
                have hd2 : d2 = c := List.mem_singleton.mp (h3 d2 (List.mem_cons_of_mem _ (List.mem_cons_self ..)))
                exact absurd (by rw [hd, hd2]; exact List.mem_cons_self ..) nd.1
          rw [cz, nil_app, e3]
          exact List.prefix_refl _
        · have h3 := hF.on _ hu' (by rw [hz']; exact cz) n2
          replace h3 : fst1 z ∈ F u.1 := by rw [hz'] at h3; exact h3
          rw [hc, List.mem_singleton] at h3
          have := fst1_pre h3
          rw [cl_append]
          exact this.trans (List.prefix_append _ _)
      · rw [show cl ("" : Str) = [] by decide +kernel]; exact List.nil_prefix
    obtain ⟨z, hz⟩ := key
    exact ⟨z, by rw [List.append_assoc, hz]⟩
def spRun (K : Frag) : Sp := fun vs H Q _ => ∃ v s pb ps pe x L, vs = [v, .str x] ∧ ScV K H s v pb ps pe ∧ OkR s ∧ WdL s L ∧ L ≤ 1000 ∧ x.length ≤ 50 ∧ ∀ H', Same H H' → Q (optV (runS s x)) H'
def spFollow (K : Frag) : Sp := fun vs H Q _ => ∃ (v : V) (s : Scr) (pb ps pe a : Addr) (ns : List Int) (n : Int), vs = [v, .ref a, .int n] ∧ ScV K H s v pb ps pe ∧ OkR s ∧ SqL K H a (ns.map V.int) ∧ 0 ≤ n ∧ n ≤ 50 ∧ (∀ t ∈ s.steps, t.2.1.length ≤ 1) ∧ ∀ (x : Str) H', x.length ≤ 50 → Same H H' → Q (.str x) H'
def spGood (K : Frag) : Sp := fun vs H Q _ => ∃ v s pb ps pe, vs = [v] ∧ ScN K H s v pb ps pe ∧ OkR s ∧ plainB s = true ∧ (∀ t ∈ s.steps, ∃ c ∈ cl s.signs, t.2.1 = ⟨#[c]⟩) ∧ ∀ H', Same H H' → Q (.bl true) H'
theorem reps_strs33 {K : Frag} {H : Hp} : ∀ ss : List Str, Reps K H (ss.map D.str) (ss.map V.str)
  | [] => .nil
  | x :: ss => .cons (rep_str x) (reps_strs33 ss)
theorem deeps_strs33 : ∀ ss : List Str, deeps (ss.map D.str) = 0
  | [] => rfl
  | x :: ss => by rw [List.map_cons, deeps, deeps_strs33 ss]; rfl
theorem val_key {κ : Type} [DecidableEq κ] {kvs : List (κ × V)} {k : κ} : (valV kvs k).isSome = true ↔ k ∈ kvs.map (·.1) := by
  rw [← valV_any, List.any_eq_true, List.mem_map]
  exact ⟨fun ⟨x, h1, h2⟩ => ⟨x, h1, of_decide_eq_true h2⟩, fun ⟨x, h1, h2⟩ => ⟨x, h1, decide_eq_true h2⟩⟩
theorem nd_len33 {α : Type} [DecidableEq α] : ∀ {xs ys : List α}, xs.Nodup → (∀ x, x ∈ xs → x ∈ ys) → xs.length ≤ ys.length
  | [], _, _, _ => Nat.zero_le _
  | x :: xs, ys, nd, h => by
    rw [List.nodup_cons] at nd
    have hx := h x (List.mem_cons_self ..)
    have := nd_len33 (xs := xs) (ys := ys.erase x) nd.2 fun y hy => by
      have hne : y ≠ x := fun e => nd.1 (e ▸ hy)
      exact (List.mem_erase_of_ne hne).mpr (h y (List.mem_cons_of_mem _ hy))
    rw [List.length_erase_of_mem hx] at this
    have : 0 < ys.length := List.length_pos_of_mem hx
    rw [List.length_cons]; omega
def letA (e : Scr) : List Str := (e.ends.map fun m => fst1 m.2) ++ e.steps.map fun u => fst1 u.2.2.1
def atF (F : List (List Str)) (r : Int) : List Str := (F[r.toNat]?).getD []
def totF (F : List (List Str)) : Nat := (F.map List.length).sum
structure FI (e : Scr) (F : List (List Str)) : Prop where
  len : F.length = e.rooms.toNat
  nd : ∀ L ∈ F, L.Nodup
  sub : ∀ L ∈ F, ∀ c ∈ L, c ∈ letA e
theorem FI.size {e : Scr} {F : List (List Str)} (h : FI e F) (L : List Str) (hL : L ∈ F) : L.length ≤ (letA e).length := nd_len33 (h.nd L hL) (h.sub L hL)
theorem sum_le {n : Nat} : ∀ {F : List (List Str)}, (∀ L ∈ F, L.length ≤ n) → totF F ≤ F.length * n
  | [], _ => Nat.zero_le _
  | L :: F, h => by
    have h1 := h L (List.mem_cons_self ..)
    have h2 := sum_le (F := F) fun L hL => h L (List.mem_cons_of_mem _ hL)
    unfold totF at *
    rw [List.map_cons, List.sum_cons, List.length_cons, Nat.succ_mul]; omega
theorem FI.tot {e : Scr} {F : List (List Str)} (h : FI e F) : totF F ≤ e.rooms.toNat * (letA e).length := by rw [← h.len]; exact sum_le h.size
theorem tot_set {L' : List Str} : ∀ {F : List (List Str)} {i : Nat} {L : List Str}, F[i]? = some L → totF (F.set i L') + L.length = totF F + L'.length
  | [], i, L, h => by simp at h
  | M :: F, 0, L, h => by
    rw [List.getElem?_cons_zero] at h
    injection h with h
    subst h
    show (L' :: F).map List.length |>.sum |> (· + M.length) |> (· = _)
    unfold totF
    simp only [List.map_cons, List.sum_cons]; omega
  | M :: F, i + 1, L, h => by
    rw [List.getElem?_cons_succ] at h
    have := tot_set (L' := L') h
    unfold totF at *
    rw [List.set_cons_succ, List.map_cons, List.sum_cons, List.map_cons, List.sum_cons]; omega
theorem mem_setF {F : List (List Str)} {i : Nat} {L' L : List Str} (h : L ∈ F.set i L') : L ∈ F ∨ L = L' := by
  obtain ⟨j, hj⟩ := List.getElem?_of_mem h
  rw [List.getElem?_set] at hj
  split at hj
  · split at hj
    · injection hj with hj; exact .inr hj.symm
    · cases hj
  · exact .inl (List.mem_of_getElem? hj)
theorem mem_add {L : List Str} {c x : Str} : x ∈ addM L c ↔ x ∈ L ∨ x = c := by
  unfold addM
  by_cases h : c ∈ L
  · rw [if_pos h]; exact ⟨.inl, fun z => z.elim id fun e => e ▸ h⟩
  · rw [if_neg h, List.mem_append, List.mem_singleton]
theorem FI.put {e : Scr} {F : List (List Str)} (h : FI e F) {i : Nat} {L : List Str} {c : Str} (hL : F[i]? = some L) (hc : c ∈ letA e) : FI e (F.set i (addM L c)) := by
  have hm := List.mem_of_getElem? hL
  refine ⟨by rw [List.length_set]; exact h.len, fun M hM => ?_, fun M hM x hx => ?_⟩
  · rcases mem_setF hM with z | rfl
    · exact h.nd M z
    · unfold addM; split
      · exact h.nd L hm
      · rename_i z; exact nodup_snoc (h.nd L hm) z
  · rcases mem_setF hM with z | rfl
    · exact h.sub M z x hx
    · rcases mem_add.mp hx with z | rfl
      · exact h.sub L hm x z
      · exact hc
theorem at_put {F : List (List Str)} {i : Nat} {L : List Str} {c x : Str} (hL : F[i]? = some L) {r : Int} (h : x ∈ atF F r) : x ∈ atF (F.set i (addM L c)) r := by
  unfold atF at *
  rw [List.getElem?_set]
  by_cases e : i = r.toNat
  · subst e
    rw [hL] at h
    rw [if_pos rfl, if_pos (List.getElem?_eq_some_iff.mp hL).1]
    exact mem_add.mpr (.inl h)
  · rw [if_neg e]; exact h
theorem at_new {F : List (List Str)} {r : Int} {L : List Str} {c : Str} (hL : F[r.toNat]? = some L) : c ∈ atF (F.set r.toNat (addM L c)) r := by
  unfold atF
  rw [List.getElem?_set, if_pos rfl, if_pos (List.getElem?_eq_some_iff.mp hL).1]
  exact mem_add.mpr (.inr rfl)
theorem add_len {L : List Str} {c : Str} (h : c ∉ L) : (addM L c).length = L.length + 1 := by unfold addM; rw [if_neg h, List.length_append]; rfl
structure FdOk (H0 H : Hp) (ds : List Addr) (F : List (List Str)) : Prop where
  len : ds.length = F.length
  nd : ds.Nodup
  fr : ∀ d ∈ ds, H0 d = none
  at' : ∀ (i : Nat) (d : Addr) (L : List Str), ds[i]? = some d → F[i]? = some L → ∃ kvs : List (Key × V), H d = some (.dK kvs) ∧ kvs.map (·.1) = L.map Sum.inr
theorem FdOk.mono {H0 H H' : Hp} {ds : List Addr} {F : List (List Str)} (g : Same H H') (h : FdOk H0 H ds F) : FdOk H0 H' ds F :=
  ⟨h.len, h.nd, h.fr, fun i d L a b => by obtain ⟨k, e1, e2⟩ := h.at' i d L a b; exact ⟨k, g _ _ e1, e2⟩⟩
theorem FdOk.put {H0 H : Hp} {ds : List Addr} {F : List (List Str)} (h : FdOk H0 H ds F) {i : Nat} {d : Addr} {L : List Str} {kvs : List (Key × V)} {c : Str} {v : V} (hd : ds[i]? = some d) (hL : F[i]? = some L) (hk : kvs.map (·.1) = L.map Sum.inr) :
    FdOk H0 (upd H d (.dK (putK kvs (Sum.inr c) v))) ds (F.set i (addM L c)) := by
  refine ⟨by rw [List.length_set]; exact h.len, h.nd, h.fr, fun j d' L' a b => ?_⟩
  rw [List.getElem?_set] at b
  by_cases e : i = j
  · subst e
    rw [hd] at a
    injection a with a
    subst a
    rw [if_pos rfl, if_pos (List.getElem?_eq_some_iff.mp hL).1] at b
    injection b with b
    subst b
    exact ⟨_, upd_same, by rw [put_keys, hk, add_map (fun a b z => by injection z)]⟩
  · rw [if_neg e] at b
    have ne : d' ≠ d := fun z => by
      subst z
      obtain ⟨i1, i2⟩ := List.getElem?_eq_some_iff.mp hd
      obtain ⟨j1, j2⟩ := List.getElem?_eq_some_iff.mp a
      rcases Nat.lt_trichotomy i j with z | z | z
      · exact List.pairwise_iff_getElem.mp h.nd i j i1 j1 z (i2.trans j2.symm)
      · exact e z
      · exact List.pairwise_iff_getElem.mp h.nd j i j1 i1 z (j2.trans i2.symm)
    obtain ⟨k, e1, e2⟩ := h.at' j d' L' a b
    exact ⟨k, (upd_ne ne).trans e1, e2⟩
theorem FdOk.get {H0 H : Hp} {ds : List Addr} {F : List (List Str)} {e : Scr} (h : FdOk H0 H ds F) (hI : FI e F) {r : Int} (h0 : 0 ≤ r) (h1 : r < e.rooms) : ∃ d L kvs, ds[r.toNat]? = some d ∧ F[r.toNat]? = some L ∧ atF F r = L ∧ H d = some (.dK kvs) ∧ kvs.map (·.1) = L.map Sum.inr ∧ atI (ds.map V.ref) r = some (.ref d) ∧ H0 d = none := by
  have hl : r.toNat < F.length := by rw [hI.len]; omega
  have hl2 : r.toNat < ds.length := by rw [h.len]; exact hl
  obtain ⟨k, e1, e2⟩ := h.at' r.toNat _ _ (List.getElem?_eq_getElem hl2) (List.getElem?_eq_getElem hl)
  refine ⟨_, _, k, List.getElem?_eq_getElem hl2, List.getElem?_eq_getElem hl, by unfold atF; rw [List.getElem?_eq_getElem hl]; rfl, e1, e2, ?_, h.fr _ (List.getElem_mem hl2)⟩
  obtain ⟨j, rfl⟩ := Int.eq_ofNat_of_zero_le h0
  exact atI_nat (by rw [List.getElem?_map, List.getElem?_eq_getElem (by simpa using hl2)]; rfl)
def Cls (F : List (List Str)) (u : Stp) : Prop := (u.2.2.1 ≠ "" → atF F u.2.2.2 ≠ [] → fst1 u.2.2.1 ∈ atF F u.1) ∧ (u.2.2.1 = "" → ∀ c ∈ atF F u.2.2.2, c ∈ atF F u.1)
def spFirsts (K : Frag) : Sp := fun vs H Q _ => ∃ v e pb ps pe L, vs = [v] ∧ ScV K H e v pb ps pe ∧ OkR e ∧ WdL e L ∧ L ≤ 9000 ∧ 0 ≤ e.rooms ∧ e.rooms ≤ 64 ∧ ∀ (l : Addr) (ds : List Addr) (F : List (List Str)) (H' : Hp), Same H H' → H l = none → H' l = some (.lst (ds.map V.ref)) → FdOk H H' ds F → FI e F → Fcl e (atF F) → Q (.ref l) H'
theorem fcl_of {e : Scr} {F : List (List Str)} (hI : FI e F) (hE : ∀ m ∈ e.ends, fst1 m.2 ∈ atF F m.1) (hC : ∀ u ∈ e.steps, Cls F u) : Fcl e (atF F) :=
  ⟨fun r => by
    unfold atF
    cases h : F[r.toNat]? with
    | none => exact List.Pairwise.nil
    | some L => exact hI.nd L (List.mem_of_getElem? h), hE, fun u hu => (hC u hu).1, fun u hu => (hC u hu).2⟩
theorem letA_e {e : Scr} {m : Mk} (h : m ∈ e.ends) : fst1 m.2 ∈ letA e := List.mem_append_left _ (List.mem_map.mpr ⟨m, h, rfl⟩)
theorem letA_s {e : Scr} {u : Stp} (h : u ∈ e.steps) : fst1 u.2.2.1 ∈ letA e := List.mem_append_right _ (List.mem_map.mpr ⟨u, h, rfl⟩)
theorem letA_len {e : Scr} (ok : OkR e) : (letA e).length ≤ 1998 := by
  unfold letA
  rw [List.length_append, List.length_map, List.length_map]
  have := ok.ls; have := ok.le; omega
theorem ScN.mono {K : Frag} {H H' : Hp} {s : Scr} {v : V} {pb ps pe : Addr} (g : Same H H') : ScN K H s v pb ps pe → ScN K H' s v pb ps pe
  | ⟨a, xb, xs, xe, e, h1, h2, h3, h4, h5, h6, h7⟩ => ⟨a, xb, xs, xe, e, Same.seqT g h1, g _ _ h2, g _ _ h3, g _ _ h4, paired_mono (fun _ _ => MkV.mono (Same.grow g)) h5, paired_mono (fun _ _ => StV.mono (Same.grow g)) h6, paired_mono (fun _ _ => MkV.mono (Same.grow g)) h7⟩
def dOp : Option Str → D
  | none => .non
  | some x => .str x
theorem rep_op {K : Frag} {H : Hp} (o : Option Str) : Rep K H (dOp o) (optV o) := by
  cases o with
  | none => exact rep_non
  | some x => exact rep_str x
theorem deep_op (o : Option Str) : deep (dOp o) ≤ 60 := by cases o <;> exact Nat.zero_le _
section
seal L2.PE L2.PT L2.PW L2.PA L2.PS L2.PSs L2.PC L2.PG L2.PGs L2.PI L2.PO
variable {P : Program} {w : World} {K : Frag} {mg : Str → Option Value} {base : Heap}
theorem sc_all_unlike : FnScope ["parts"] ["parts"] (defScope s_all_unlike) := ⟨rfl, rfl, rfl, by decide +kernel, rfl, by decide +kernel, by decide +kernel⟩
theorem ok_all_unlike (B : Bi mg) {c_NotPlain : Addr} (XB : Xb K mg c_NotPlain)  {f : Addr} {fd : FuncData} (F : Fun K "all_unlike" "all_unlike" s_all_unlike f fd) : FnOk P w K mg base CX0 1 f fd ["parts"] (spUnlike K) := by
  refine F.ok sc_all_unlike (fun vs H Q E h => ?_) (fun cdv A outer s H vs Q E hr h => ?_)
  · obtain ⟨p, rfl, _⟩ := h; rfl
  obtain ⟨p, rfl, h⟩ := h
  refine ⟨_, (pss_one (ps_ret (pe_cmpR op_eq (pe_callB call_len_set (by rfl) B.len bt_len (pa_cons (pe_callTy (call_set hr (by rfl)) (by rfl) B.set bt_set (pa_cons (pv 0) pa_nil)) pa_nil)) (pe_callB (kLen (K := K)) (by rfl) B.len bt_len (pa_cons (pv 0) pa_nil)) (nomark _)))), ?_⟩
  rcases h with ⟨ys, ks, hS, hP, hl, q⟩ | ⟨ks, hS, hl, q⟩
  · have hle := ndist_le ks.reverse
    rw [List.length_reverse] at hle
    refine ⟨_, rfl, .inl ⟨_, ys, ks, rfl, hS, hP, hl, fun d hd => ?_⟩⟩
    refine ⟨_, _, rfl, upd_same, by omega, _, rfl, p, ys, rfl, .inl ((same_new hd _).seq hS), rfl, ?_⟩
    have e : decide (V.int ((ndist ks.reverse : Nat) : Int) = V.int (ys.length : Int)) = decide ks.Nodup := by rw [nd_int, ← hP.length, nodup_dec]
    show Q (.bl (decide (V.int ((ndist ks.reverse : Nat) : Int) = V.int (ys.length : Int)))) _
    rw [e]
    exact q _ (same_new hd _)
  · have hle := ndist_le ks.reverse
    rw [List.length_reverse] at hle
    refine ⟨_, rfl, .inr ⟨_, ks, rfl, hS, hl, fun d hd => ?_⟩⟩
    refine ⟨_, _, rfl, upd_same, by omega, _, rfl, p, _, rfl, .inl ((same_new hd _).seq hS), rfl, ?_⟩
    have e : decide (V.int ((ndist ks.reverse : Nat) : Int) = V.int ((ks.map kV).length : Int)) = decide ks.Nodup := by rw [nd_int, List.length_map, nodup_dec]
    show Q (.bl (decide (V.int ((ndist ks.reverse : Nat) : Int) = V.int ((ks.map kV).length : Int)))) _
    rw [e]
    exact q _ (same_new hd _)
theorem sc_is_plain : FnScope ["scribe"] ["scribe"] (defScope s_is_plain) := ⟨rfl, rfl, rfl, by decide +kernel, rfl, by decide +kernel, by decide +kernel⟩
theorem ok_is_plain (B : Bi mg) {c_NotPlain : Addr} (XB : Xb K mg c_NotPlain) (C_all_unlike : Cal P w K mg base "all_unlike" ["parts"] 1 (spUnlike K)) {f : Addr} {fd : FuncData} (F : Fun K "is_plain" "is_plain" s_is_plain f fd) : FnOk P w K mg base CX0 2 f fd ["scribe"] (spPlain K) := by
  refine F.ok sc_is_plain (fun vs H Q E h => ?_) (fun cdv A outer s H vs Q E hr h => ?_)
  · obtain ⟨v, s, pb, ps, pe, rfl, _⟩ := h; rfl
  obtain ⟨v, s, pb, ps, pe, rfl, hV, hs, he, q⟩ := h
  refine ⟨_, (pss_cons (ps_if (pt_cmpR op_gt (pe_callB (kLen (K := K)) (by rfl) B.len bt_len (pa_cons (pe_ix (kIx (K := K) rIxT ix_tup) (pv 0) (pe_globI (by rfl) B.BEGINS) (by intro _ _; rfl)) pa_nil)) pe_int (nomark _)) (pss_one (ps_ret pe_bl)) pss_nil)
      (pss_cons (ps_if (pt_not (pt_val (pe_fn C_all_unlike hr (by decide : 1 ≤ 1) (by rfl) (pa_cons (pe_comp rfl (blk_mk (N' := ["step"]) (js := [none]) rfl (by decide +kernel) rfl (by decide +kernel) rfl rfl) (kPI (K := K) (fun k => iList k _) (pi_list (pe_ix (kIx (K := K) rIxT ix_tup) (pv 0) (pe_globI (by rfl) B.STEPS) (by intro _ _; rfl)))) (fun _ _ _ _ _ => (pg_name (i := 0) (show List.Nodup (["step"] : List Str) by decide +kernel) rfl (Or.inl rfl))) (fun _ _ _ _ _ => pf_nil) (fun _ _ _ _ _ => (pe_tup (pa_cons (pe_ix (kIx (K := K) rIxT ix_tup) (pv 0) pe_int (by intro _ _; rfl)) (pa_cons (pe_ix (kIx (K := K) rIxT ix_tup) (pv 0) pe_int (by intro _ _; rfl)) pa_nil))))) pa_nil)))) (pss_one (ps_ret pe_bl)) pss_nil)
      (pss_one (ps_ret (pe_fn C_all_unlike hr (by decide : 1 ≤ 1) (by rfl) (pa_cons (pe_comp rfl (blk_mk (N' := ["end"]) (js := [none]) rfl (by decide +kernel) rfl (by decide +kernel) rfl rfl) (kPI (K := K) (fun k => iList k _) (pi_list (pe_ix (kIx (K := K) rIxT ix_tup) (pv 0) (pe_globI (by rfl) B.ENDS) (by intro _ _; rfl)))) (fun _ _ _ _ _ => (pg_name (i := 0) (show List.Nodup (["end"] : List Str) by decide +kernel) rfl (Or.inl rfl))) (fun _ _ _ _ _ => pf_nil) (fun _ _ _ _ _ => (pe_ix (kIx (K := K) rIxT ix_tup) (pv 0) pe_int (by intro _ _; rfl)))) pa_nil)))))), ?_⟩
  obtain ⟨a, xb, xs, xe, rfl, h1, h2, h3, h4, h5, h6, h7⟩ := hV
  have l5 : s.begins.length = xb.length := h5.length
  refine ⟨_, rfl, _, _, _, _, rfl, rfl, h1, rfl, _, _, rfl, .inl h2, _, _, rfl, rfl, _, rfl, ?_⟩
  refine iteDd (fun c => ?_) (fun c => ?_)
  · have e : plainB s = false := by
      unfold plainB
      rw [decide_eq_true (show s.begins.length > 1 by omega)]; rfl
    have q' := q H (Same.refl H)
    rw [e] at q'
    exact q'
  have lo : (outs s).length = xs.length := by unfold outs; rw [List.length_map]; exact h6.length
  refine ⟨_, rfl, _, _, _, _, rfl, rfl, h1, rfl, ps, rfl, ⟨xs, h3⟩, ?_⟩
  refine comp_list (xs := xs) (fun i ys τ H' => Same H H' ∧ (∃ x, τ = [x]) ∧ i ≤ 999 ∧ ys.length = i ∧ Paired (KeyV K H') ((outs s).take i) ys) ⟨Same.refl H, ⟨_, rfl⟩, Nat.zero_le _, rfl, .nil⟩ (fun i ys τ H' z => z.1.seq h3) ?_ ?_
  · rintro i x ys τ H' hx ⟨g, ⟨y, rfl⟩, hi, hy, hP⟩
    obtain ⟨t, ht, b, rfl, hb⟩ := paired_get h6 hx
    have hb' := (Same.grow g).seqT hb
    have hil : i < xs.length := (List.getElem?_eq_some_iff.mp hx).1
    have hsl : s.steps.length = xs.length := h6.length
    refine ⟨_, rfl, _, _, _, _, rfl, rfl, hb', rfl, _, rfl, _, _, _, _, rfl, rfl, hb', rfl, (by show 2 ≤ sizeLine; decide), fun p hp => ⟨szl' (by omega), g.trans (same_new hp _), ⟨_, rfl⟩, by omega, by rw [List.length_append]; show ys.length + 1 = i + 1; omega, ?_⟩⟩
    have e : (outs s).take (i + 1) = (outs s).take i ++ [[Sum.inl t.1, Sum.inr t.2.1]] := by
      have : (outs s)[i]? = some [Sum.inl t.1, Sum.inr t.2.1] := by unfold outs; rw [List.getElem?_map, ht]; rfl
      rw [List.take_add_one, this]; rfl
    rw [e]
    exact paired_append (paired_mono (fun _ _ => KeyV.mono (grow_new hp _)) hP) (.cons ⟨p, rfl, SqT.of upd_same⟩ .nil)
  rintro ys τ H1 ⟨g1, _, _, hy1, hP1⟩ p hp
  rw [← lo, List.take_length] at hP1
  refine ⟨p, rfl, .inl ⟨ys, outs s, SqL.of upd_same, paired_mono (fun _ _ => KeyV.mono (grow_new hp _)) hP1, by omega, fun H2 g2 => ?_⟩⟩
  have g := (g1.trans (same_new hp _)).trans g2
  refine ⟨_, rfl, ?_⟩
  refine iteNd (fun c2 => ?_) (fun c2 => ?_)
  · have e : plainB s = false := by
      unfold plainB
      rw [decide_eq_false c2, Bool.and_false, Bool.false_and]
    have q' := q H2 g
    rw [e] at q'
    exact q'
  have h1' := Same.seqT g h1
  have h4' := g.seq h4
  have h7' : Paired (MkV K H2) s.ends xe := paired_mono (fun _ _ => MkV.mono (Same.grow g)) h7
  have le : (lasts s).length = xe.length := by unfold lasts; rw [List.length_map]; exact h7.length
  refine ⟨_, rfl, _, _, _, _, rfl, rfl, h1', rfl, pe, rfl, ⟨xe, h4'⟩, ?_⟩
  refine comp_list (xs := xe) (fun i ys τ H' => H2 = H' ∧ (∃ x, τ = [x]) ∧ i ≤ 999 ∧ ys.length = i ∧ ys = ((lasts s).take i).map kV) ⟨rfl, ⟨_, rfl⟩, Nat.zero_le _, rfl, rfl⟩ (fun i ys τ H' z => z.1 ▸ h4') ?_ ?_
  · rintro i x ys τ H' hx ⟨rfl, ⟨y, rfl⟩, hi, hy, hP⟩
    obtain ⟨t, ht, b, rfl, hb⟩ := paired_get h7' hx
    have hil : i < xe.length := (List.getElem?_eq_some_iff.mp hx).1
    have hsl : s.ends.length = xe.length := h7.length
    refine ⟨_, rfl, _, _, _, _, rfl, rfl, hb, rfl, szl' (by omega), rfl, ⟨_, rfl⟩, by omega, by rw [List.length_append]; show ys.length + 1 = i + 1; omega, ?_⟩
    have e : (lasts s).take (i + 1) = (lasts s).take i ++ [Sum.inl t.1] := by
      have : (lasts s)[i]? = some (Sum.inl t.1) := by unfold lasts; rw [List.getElem?_map, ht]; rfl
      rw [List.take_add_one, this]; rfl
    rw [e, List.map_append, hP]
    rfl
  rintro ys τ H3 ⟨rfl, _, _, hy3, hP3⟩ p3 hp3
  rw [← le, List.take_length] at hP3
  refine ⟨p3, rfl, .inr ⟨lasts s, by rw [← hP3]; exact SqL.of upd_same, by omega, fun H4 g4 => ?_⟩⟩
  have e : plainB s = decide (lasts s).Nodup := by
    unfold plainB
    rw [decide_eq_false (show ¬ s.begins.length > 1 by omega), decide_eq_true c2]; rfl
  have q' := q H4 ((g.trans (same_new hp3 _)).trans g4)
  rw [e] at q'
  exact q'
theorem sc_refuse_choices : FnScope ["scribe"] ["scribe"] (defScope s_refuse_choices) := ⟨rfl, rfl, rfl, by decide +kernel, rfl, by decide +kernel, by decide +kernel⟩
theorem ok_refuse_choices (B : Bi mg) {c_NotPlain : Addr} (XB : Xb K mg c_NotPlain) (C_is_plain : Cal P w K mg base "is_plain" ["scribe"] 2 (spPlain K)) {f : Addr} {fd : FuncData} (F : Fun K "refuse_choices" "refuse_choices" s_refuse_choices f fd) : FnOk P w K mg base (CX1 P w) 3 f fd ["scribe"] (spChoices K c_NotPlain) := by
  refine Fun.ok1 F sc_refuse_choices (fun vs H Q E h => ?_) (fun cdv A outer s H vs Q E hr h => ?_)
  · obtain ⟨v, s, pb, ps, pe, rfl, _⟩ := h; rfl
  obtain ⟨v, s, pb, ps, pe, rfl, hV, ls, le, q, hE⟩ := h
  refine ⟨_, (pss_one (ps_if (pt_not (pt_val (pe_fn C_is_plain hr (by decide : 2 ≤ 2) (by rfl) (pa_cons (pv 0) pa_nil)))) (pss_one (ps_raise XB.own_NotPlain (by rfl) (by rfl) raise_on pe_str)) pss_nil)), ?_⟩
  refine ⟨_, rfl, _, s, pb, ps, pe, rfl, hV, ls, le, fun H1 g1 => ⟨_, rfl, ?_⟩⟩
  cases hpl : plainB s with
  | false => exact iteT ⟨rfl, hE hpl _ g1⟩
  | true => exact iteF (q hpl _ g1)
theorem sc_places_at : FnScope ["steps", "side", "found", "place", "step"] ["steps", "side"] (defScope s_places_at) := ⟨rfl, rfl, rfl, by decide +kernel, rfl, by decide +kernel, by decide +kernel⟩
theorem ok_places_at (B : Bi mg) {c_NotPlain : Addr} (XB : Xb K mg c_NotPlain)  {f : Addr} {fd : FuncData} (F : Fun K "places_at" "places_at" s_places_at f fd) : FnOk P w K mg base CX0 1 f fd ["steps", "side"] (spPlaces K) := by
  refine F.ok sc_places_at (fun vs H Q E h => ?_) (fun cdv A outer s H vs Q E hr h => ?_)
  · obtain ⟨a, S, n, rfl, _⟩ := h; rfl
  obtain ⟨a, S, n, rfl, ⟨xs, h3, h6⟩, hs, hn, q⟩ := h
  refine ⟨_, (pss_cons (ps_set (i := 2) sc_places_at.nd rfl (Or.inl rfl) pe_dnewK)
      (pss_cons (ps_for PassesOwn.never (by rfl) (kPI (K := K) (fun k => iEnu k _) (pi_enu (by rfl) B.enumerate (pa_cons (pv 0) pa_nil))) (kPG (K := K) (fun k => gTup k 2 _) (pg_tup (n := 2) (by rfl) (pgs_cons (pg_name (i := 3) sc_places_at.nd rfl (Or.inl rfl)) (pgs_cons (pg_name (i := 4) sc_places_at.nd rfl (Or.inl rfl)) pgs_nil)))) (pss_one (ps_expr (kPE (K := K) (fun k => tBM k _ _ _ _) (pe_bm PySem.F.plainAttrs_list PySem.F.slot_list_append PySem.F.type_list_append mt_append (kPE (K := K) (fun k => tBM k _ _ _ _) (pe_bm PySem.F.plainAttrs_dict PySem.F.slot_dict_setdefault PySem.F.type_dict_setdefault (mt_setdefault hr) (pv 2) (pa_cons (pe_ix (kIx (K := K) rIxT ix_tup) (pv 4) (pv 1) (by intro _ _; rfl)) (pa_cons (pe_lst pa_nil) pa_nil)))) (pa_cons (pv 3) pa_nil))))))
      (pss_one (ps_ret (pv 2))))), ?_⟩
  have hsx : S.length = xs.length := h6.length
  refine fun d hd => ?_
  have g0 := same_new hd (.dK [])
  refine ⟨_, rfl, a, rfl, ⟨xs, g0.seq h3⟩, ?_⟩
  refine for_enu (xs := xs) (fun i σ H' => Same H H' ∧ i ≤ xs.length ∧ (∃ x y, σ = [some (.ref a), some (.int n), some (.ref d), x, y]) ∧ ∃ kvs, H' d = some (.dK kvs) ∧ Bk isQ (keyP n S) H H' d (List.range i) kvs)
    ⟨g0, Nat.zero_le _, ⟨_, _, rfl⟩, [], upd_same, Bk.nil⟩ (fun i σ H' _ z => z.1.seq h3) ?_ ?_
  · rintro i x p0 σ H1 hx ⟨g1, hi, ⟨x2, x3, rfl⟩, kvs, hkd, bk⟩ hp0
    obtain ⟨t, ht, b, rfl, hb⟩ := paired_get h6 hx
    have hil : i < xs.length := (List.getElem?_eq_some_iff.mp hx).1
    have gp := same_new hp0 (.tup [V.int i, V.ref b])
    have ep := upd_same (H := H1) (a := p0) (o := .tup [V.int i, V.ref b])
    have hkd := gp _ _ hkd
    have bk := bk.mono isq_gt gp
    have g1 := g1.trans gp
    generalize upd H1 p0 (.tup [V.int i, V.ref b]) = H1 at gp ep hkd bk g1 ⊢
    have hb1 := (Same.grow g1).seqT hb
    have hkl : kvs.length ≤ 999 := by have := bk.len; rw [List.length_range] at this; omega
    refine ⟨p0, _, rfl, SqT.of ep, rfl, _, _, rfl, _, _, rfl, rfl, ?_⟩
    refine ⟨_, rfl, .inr (.inr (.inl ⟨rfl, .inl ⟨kvs, hkd⟩⟩)), ?_⟩
    refine ⟨_, rfl, _, rfl, _, _, _, _, rfl, rfl, hb1, side_at hn t, szl (by simp), fun l hl => ?_⟩
    have gl := same_new hl (.lst [])
    have hk2 := gl _ _ hkd
    have bk2 := bk.mono isq_gt gl
    have g2 := g1.trans gl
    have el : upd H1 l (.lst []) l = some (.lst []) := upd_same
    have hl0 : H l = none := g1.free hl
    have hln : ∀ k, valV kvs k ≠ some (.ref l) := fun k hk => by
      obtain ⟨l', ys, e, _, _, h3', _⟩ := bk.there k _ hk
      injection e with e
      subst e
      rw [h3'] at hl; cases hl
    have hld : l ≠ d := (ne_of_none hkd hl).symm
    generalize upd H1 l (.lst []) = H2 at hk2 bk2 g2 el ⊢
    have hkey : keyP n S i = Sum.inl (sideOf n t) := by unfold keyP; rw [ht]; rfl
    refine ⟨d, V.int (sideOf n t), .ref l, rfl, rfl, .inl ⟨kvs, keyP n S i, hk2, by rw [hkey]; rfl, szl' (by omega), fun r hr2 => ?_, fun hnn => ?_⟩⟩
    · obtain ⟨l2, ys, rfl, j1, j2, j3, j4, j5⟩ := bk2.there _ _ hr2
      have hyl : ys.length ≤ 999 := by
        rw [← j4.length]
        have := List.length_filter_le (fun t' => decide (keyP n S t' = keyP n S i)) (List.range i)
        rw [List.length_range] at this; omega
      refine ⟨.inl ⟨rfl, _, SqL.of j3⟩, _, rfl, l2, ys, _, rfl, rfl, j3, szl' (by omega), ?_⟩
      refine ⟨same_updN g2 j1, hil, ⟨_, _, rfl⟩, kvs, by rw [upd_ne j2.symm]; exact hk2, ?_⟩
      rw [List.range_succ]
      exact bk2.put isq_gt hr2 j3 rfl
    · have e3 : upd H2 d (.dK (putK kvs (keyP n S i) (.ref l))) l = some (.lst []) := by rw [upd_ne hld]; exact el
      refine ⟨.inl ⟨rfl, _, SqL.of e3⟩, _, rfl, l, [], _, rfl, rfl, e3, szl' (by simp), ?_⟩
      refine ⟨same_updN (same_updN g2 hd) hl0, hil, ⟨_, _, rfl⟩, putK kvs (keyP n S i) (.ref l), by rw [upd_ne hld.symm]; exact upd_same, ?_⟩
      rw [List.range_succ]
      exact bk2.new isq_gt hnn hl0 hld hk2 (fun _ z => nomatch z) (fun _ _ z => nomatch z) hln el rfl
  rintro σ H1 ⟨g1, _, ⟨x2, x3, rfl⟩, kvs, hkd, bk⟩
  rw [← hsx] at bk
  exact ⟨_, rfl, q _ _ g1 ⟨d, kvs, rfl, hd, hkd, bk⟩⟩
theorem sc_traces_from : FnScope ["marks", "steps", "near", "far", "traces", "place", "mark", "places", "front", "behind", "room", "other"] ["marks", "steps", "near", "far"] (defScope s_traces_from) := ⟨rfl, rfl, rfl, by decide +kernel, rfl, by decide +kernel, by decide +kernel⟩
theorem ok_traces_from (B : Bi mg) {c_NotPlain : Addr} (XB : Xb K mg c_NotPlain) (C_places_at : Cal P w K mg base "places_at" ["steps", "side"] 1 (spPlaces K)) {f : Addr} {fd : FuncData} (F : Fun K "traces_from" "traces_from" s_traces_from f fd) : FnOk P w K mg base CX0 2 f fd ["marks", "steps", "near", "far"] (spTraces K) := by
  refine F.ok sc_traces_from (fun vs H Q E h => ?_) (fun cdv A outer s H vs Q E hr h => ?_)
  · obtain ⟨am, M, as_, S, n, f, R, rfl, _⟩ := h; rfl
  obtain ⟨am, M, as_, S, n, f, R, rfl, ⟨xm, hm1, hm2⟩, hSt, lm, ls, hn, hf, hR, bm, bs, q⟩ := h
  refine ⟨_, (pss_cons (ps_set (i := 4) sc_traces_from.nd rfl (Or.inl rfl) pe_dnewK)
      (pss_cons (ps_for PassesOwn.never (by rfl) (kPI (K := K) (fun k => iEnu k _) (pi_enu (by rfl) B.enumerate (pa_cons (pv 0) pa_nil))) (kPG (K := K) (fun k => gTup k 2 _) (pg_tup (n := 2) (by rfl) (pgs_cons (pg_name (i := 5) sc_traces_from.nd rfl (Or.inl rfl)) (pgs_cons (pg_name (i := 6) sc_traces_from.nd rfl (Or.inl rfl)) pgs_nil)))) (pss_one (ps_if (pt_cmp (pc_dnotin (hu_of hr) (pe_ix (kIx (K := K) rIxT ix_tup) (pv 6) pe_int (by intro _ _; rfl)) (pv 4))) (pss_one (ps_dput (hu_of hr) (pv 4) (pe_ix (kIx (K := K) rIxT ix_tup) (pv 6) pe_int (by intro _ _; rfl)) (pe_tup (pa_cons (pv 5) (pa_cons pe_non pa_nil))) rfl)) pss_nil)))
      (pss_cons (ps_set (i := 7) sc_traces_from.nd rfl (Or.inl rfl) (pe_fn C_places_at hr (by decide : 1 ≤ 1) (by rfl) (pa_cons (pv 1) (pa_cons (pv 2) pa_nil))))
      (pss_cons (ps_set (i := 8) sc_traces_from.nd rfl (Or.inl rfl) (pe_callTy (call_list_d (by rfl)) (by rfl) B.list bt_list (pa_cons (pv 4) pa_nil)))
      (pss_cons (ps_while PassesOwn.never (pt_cmpR (kOp (K := K) rNeD (op_neD hr.units)) (pv 8) (pe_lst pa_nil) (nomark _)) (pss_cons (ps_set (i := 9) sc_traces_from.nd rfl (Or.inl rfl) (pe_lst pa_nil))
      (pss_cons (ps_for PassesOwn.never (by rfl) (kPI (K := K) (fun k => iList k _) (pi_list (pv 8))) (pg_name (i := 10) sc_traces_from.nd rfl (Or.inl rfl)) (pss_one (ps_for PassesOwn.never (by rfl) (kPI (K := K) (fun k => iList k _) (pi_list (kPE (K := K) (fun k => tBM k _ _ _ _) (pe_bm PySem.F.plainAttrs_dict PySem.F.slot_dict_get PySem.F.type_dict_get (mt_get2 hr) (pv 7) (pa_cons (pv 10) (pa_cons (pe_lst pa_nil) pa_nil)))))) (pg_name (i := 5) sc_traces_from.nd rfl (Or.inl rfl)) (pss_cons (ps_set (i := 11) sc_traces_from.nd rfl (Or.inl rfl) (pe_ix (kIx (K := K) rIxT ix_tup) (pe_ix (kIx (K := K) rIxL ix_list) (pv 1) (pv 5) (by intro _ _; rfl)) (pv 3) (by intro _ _; rfl)))
      (pss_one (ps_if (pt_cmp (pc_dnotin (hu_of hr) (pv 11) (pv 4))) (pss_cons (ps_dput (hu_of hr) (pv 4) (pv 11) (pe_tup (pa_cons (pe_ix (kIx (K := K) rIxT ix_tup) (pe_dget (hu_of hr) (pv 4) (pv 10) (by intro _ _; rfl)) pe_int (by intro _ _; rfl)) (pa_cons (pv 5) pa_nil))) rfl)
      (pss_one (ps_expr (kPE (K := K) (fun k => tBM k _ _ _ _) (pe_bm PySem.F.plainAttrs_list PySem.F.slot_list_append PySem.F.type_list_append mt_append (pv 9) (pa_cons (pv 11) pa_nil)))))) pss_nil))))))
      (pss_one (ps_set (i := 8) sc_traces_from.nd rfl (Or.inl rfl) (pv 9))))))
      (pss_one (ps_ret (pv 4)))))))), ?_⟩
  have hmx : M.length = xm.length := hm2.length
  refine fun d hd => ?_
  have g0 := same_new hd (.dK [])
  refine ⟨_, rfl, am, rfl, ⟨xm, g0.seq hm1⟩, ?_⟩
  refine for_enu (xs := xm) (fun i σ H' => Same H H' ∧ i ≤ xm.length ∧ (∃ x5 x6, σ = [some (.ref am), some (.ref as_), some (.int n), some (.int f), some (.ref d), x5, x6, none, none, none, none, none]) ∧ ∃ T, TrD K H' d T ∧ TI M S n f T ∧ T.length ≤ i ∧ (∀ m ∈ M.take i, m.1 ∈ keysT T) ∧ (∀ r ∈ keysT T, 0 ≤ r ∧ r < R) ∧ (∀ e ∈ T, e.2.2 = none))
    ⟨g0, Nat.zero_le _, ⟨_, _, rfl⟩, [], ⟨[], upd_same, .nil⟩, TI.nil, Nat.le_refl _, by simp, by simp [keysT], by simp⟩ (fun i σ H' _ z => z.1.seq hm1) ?_ ?_
  · rintro i x p0 σ H1 hx ⟨g1, hi, ⟨x5, x6, rfl⟩, T, ⟨kvs, hkd, hp⟩, ti, tl, tm, tb, tz⟩ hp0
    obtain ⟨m, hm, b, rfl, hb⟩ := paired_get hm2 hx
    have hil : i < xm.length := (List.getElem?_eq_some_iff.mp hx).1
    have gp := same_new hp0 (.tup [V.int i, V.ref b])
    have ep := upd_same (H := H1) (a := p0) (o := .tup [V.int i, V.ref b])
    have hkd := gp _ _ hkd
    have hp := paired_mono (fun _ _ => EnV.gt (GT.of gp)) hp
    have g1 := g1.trans gp
    generalize upd H1 p0 (.tup [V.int i, V.ref b]) = H1 at gp ep hkd hp g1 ⊢
    have hb1 := (Same.grow g1).seqT hb
    have hkl : kvs.length = T.length := hp.length.symm
    refine ⟨p0, _, rfl, SqT.of ep, rfl, _, _, rfl, _, _, rfl, rfl, ?_⟩
    refine ⟨_, rfl, _, _, _, _, rfl, rfl, hb1, rfl, _, rfl, d, _, rfl, DGet.k (k := Sum.inl m.1) hkd, _, rfl, ?_⟩
    cases hv : valV kvs (Sum.inl m.1) with
    | some v =>
      refine iteF ?_
      have hin : m.1 ∈ keysT T := Classical.byContradiction fun z => by rw [(val_none hp).mpr z] at hv; cases hv
      refine ⟨g1, hil, ⟨_, _, rfl⟩, T, ⟨kvs, hkd, hp⟩, ti, by omega, fun m' h' => ?_, tb, tz⟩
      rw [take_get hm] at h'
      rcases List.mem_append.mp h' with h' | h'
      · exact tm m' h'
      · rw [List.mem_singleton.mp h']; exact hin
    | none =>
      have hnot := (val_none hp).mp hv
      refine iteT ?_
      refine ⟨_, rfl, (by show 2 ≤ sizeLine; decide), fun p hp2 => ?_⟩
      have g2 := same_new hp2 (.tup [V.int i, V.non])
      have e2 := upd_same (H := H1) (a := p) (o := .tup [V.int i, V.non])
      have hkd := g2 _ _ hkd
      have hp := paired_mono (fun _ _ => EnV.gt (GT.of g2)) hp
      have hb2 := (Same.grow g2).seqT hb1
      have g12 := g1.trans g2
      generalize upd H1 p (.tup [V.int i, V.non]) = H2 at g2 e2 hkd hp hb2 g12 ⊢
      refine ⟨_, rfl, _, rfl, _, _, _, _, rfl, rfl, hb2, rfl, d, _, rfl, .inl ⟨kvs, Sum.inl m.1, hkd, rfl, szl' (by omega), rfl⟩, ?_⟩
      refine ⟨same_updN g12 hd, hil, ⟨_, _, rfl⟩, T ++ [(m.1, i, none)], TrD.put (e := (m.1, i, none)) hkd hp hnot e2, ti.snoc hnot (.inl ⟨rfl, m, hm, rfl⟩), by rw [List.length_append, List.length_singleton]; omega, fun m' h' => ?_, fun r hr => ?_, fun e he => ?_⟩
      · rw [keys_snoc]
        rw [take_get hm] at h'
        rcases List.mem_append.mp h' with h' | h'
        · exact List.mem_append_left _ (tm m' h')
        · rw [List.mem_singleton.mp h']; exact List.mem_append_right _ (by simp)
      · rw [keys_snoc] at hr
        rcases List.mem_append.mp hr with hr | hr
        · exact tb r hr
        · rw [List.mem_singleton.mp hr]; exact bm m (List.mem_of_getElem? hm)
      · rcases List.mem_append.mp he with he | he
        · exact tz e he
        · rw [List.mem_singleton.mp he]
  rintro σ H1 ⟨g1, _, ⟨x5, x6, rfl⟩, T0, hT0, ti0, tl0, tm0, tb0, tz0⟩
  rw [← hmx, List.take_length] at tm0
  have tfst : ∀ m ∈ M, ∃ e ∈ T0, e.1 = m.1 ∧ e.2.2 = none := fun m hm => by
    have h1 := tm0 m hm
    unfold keysT at h1
    obtain ⟨e, he, e1⟩ := List.mem_map.mp h1
    exact ⟨e, he, e1, tz0 e he⟩
  have hSt1 : StL K H1 as_ S := let ⟨xs, h1, h2⟩ := hSt; ⟨xs, g1.seq h1, paired_mono (fun _ _ => StV.mono (Same.grow g1)) h2⟩
  refine ⟨_, rfl, _, rfl, as_, S, n, rfl, hSt1, ls, hn, fun vP Hq gq hP => ?_⟩
  obtain ⟨pd, kvp, rfl, hpd0, hpd, bk⟩ := hP
  have hTq := hT0.mono gq
  obtain ⟨kvs0, hkd0, hp0⟩ := id hTq
  refine ⟨_, rfl, d, rfl, .inl ⟨kvs0, hkd0, fun lf hlf => ?_⟩⟩
  have hkf := en_keys hp0
  rw [hkf]
  have glf := same_new hlf (.lst ((keysT T0).map V.int))
  have elf := upd_same (H := Hq) (a := lf) (o := .lst ((keysT T0).map V.int))
  have kb0 : KB d Hq (upd Hq lf (.lst ((keysT T0).map V.int))) := fun b o _ z => glf b o z
  have hT1 := hTq.mono glf
  generalize upd Hq lf (.lst ((keysT T0).map V.int)) = H2 at glf elf kb0 hT1 ⊢
  have hqd : Hq d ≠ none := by rw [hkd0]; exact fun z => nomatch z
  have gq0 : Same H Hq := g1.trans gq
  have hpdd : pd ≠ d := fun z => by rw [z] at hpd0; obtain ⟨k1, k2, _⟩ := hT0; rw [k2] at hpd0; cases hpd0
  obtain ⟨xs, hs1, hs2⟩ := hSt
  have hsx : S.length = xs.length := hs2.length
  obtain ⟨Rn, hRn⟩ : ∃ N : Nat, R ≤ (N : Int) ∧ N ≤ 999 := ⟨R.toNat, by omega, by omega⟩
  have cap : ∀ T : List En, TI M S n f T → (∀ r ∈ keysT T, 0 ≤ r ∧ r < R) → T.length ≤ Rn := fun T ti tb => by
    have := len_bnd Rn (keysT T) ti.nd fun x hx => ⟨(tb x hx).1, by have := (tb x hx).2; omega⟩
    unfold keysT at this
    rw [List.length_map] at this; exact this
  refine ⟨fun mm σ H' => ∃ (lf : Addr) (fr : List Int) (T : List En) (x5 x9 x10 x11 : Option V), mm = 2 * (Rn - T.length) + min fr.length 1 ∧ σ = [some (.ref am), some (.ref as_), some (.int n), some (.int f), some (.ref d), x5, x6, some (.ref pd), some (.ref lf), x9, x10, x11] ∧
      KB d Hq H' ∧ H' lf = some (.lst (fr.map V.int)) ∧ TrD K H' d T ∧ TI M S n f T ∧ T0 <+: T ∧ (∀ m ∈ M, m.1 ∈ keysT T) ∧ (∀ r ∈ keysT T, 0 ≤ r ∧ r < R) ∧ (∀ r ∈ fr, r ∈ keysT T) ∧ (∀ r ∈ keysT T, r ∈ fr ∨ DoneT S n f T r),
    ⟨_, lf, keysT T0, T0, _, _, _, _, rfl, rfl, kb0, elf, hT1, ti0, List.prefix_refl _, tm0, tb0, fun r hr => hr, fun r hr => .inl hr⟩, ?_⟩
  clear hT1 kb0 elf glf hkf hlf lf H2 hTq
  rintro mm σ H2 ⟨lf, fr, T, x5, x9, x10, x11, rfl, rfl, kb, elf, hT, ti, tp, tm, tb, tf, tc⟩
  refine ⟨_, rfl, szl (by simp), fun l0 hl0 => ?_⟩
  have gl0 := same_new hl0 (.lst [])
  have el0 := upd_same (H := H2) (a := l0) (o := .lst [])
  have kb := kb.then gl0
  have elf := gl0 _ _ elf
  have hT := hT.mono gl0
  generalize upd H2 l0 (.lst []) = H3 at gl0 el0 kb elf hT ⊢
  refine ⟨.lst (fr.map D.int), .lst [], rep_lst (SqL.of elf) (reps_ints fr), rep_lst (SqL.of el0) .nil, by simp [deep, deep_ints], _, rfl, ?_⟩
  rw [eqD_ints]
  refine iteNd (fun hfr => ?_) (fun hfr => ?_)
  rotate_left
  · subst hfr
    refine ⟨_, rfl, q d T H3 (kb.same gq0 hd) hd hT ⟨ti, tm, fun r hr => ?_, tb, fun m hm => by obtain ⟨e, h1, h2⟩ := tfst m hm; exact ⟨e, tp.subset h1, h2⟩⟩⟩
    rcases tc r hr with z | z
    · cases z
    · exact z
  have hfl : 0 < fr.length := List.length_pos_iff.mpr hfr
  refine ⟨_, fun σ' H' z => z, ?_⟩
  refine ⟨szl (by simp), fun lb hlb => ?_⟩
  have glb := same_new hlb (.lst [])
  have elb := upd_same (H := H3) (a := lb) (o := .lst [])
  have hlb0 : Hq lb = none := by
    cases z : Hq lb with
    | none => rfl
    | some o =>
      by_cases y : lb = d
      · obtain ⟨k1, k2, _⟩ := hT; rw [y, k2] at hlb; cases hlb
      · rw [kb _ _ y z] at hlb; cases hlb
  have hbf : lf ≠ lb := ne_of_none elf hlb
  have hbd : lb ≠ d := fun z => by obtain ⟨k1, k2, _⟩ := hT; rw [z, k2] at hlb; cases hlb
  have hfd : lf ≠ d := fun z => by obtain ⟨k1, k2, _⟩ := hT; rw [z, k2] at elf; cases elf
  have kb := kb.then glb
  have elf := glb _ _ elf
  have hT := hT.mono glb
  generalize upd H3 lb (.lst []) = H4 at glb elb kb elf hT ⊢
  refine ⟨_, rfl, lf, rfl, ⟨_, SqL.of elf⟩, ?_⟩
  refine for_list (xs := fr.map V.int) (fun i σ H' => ∃ (T' : List En) (beh : List Int) (x5 x10 x11 : Option V), σ = [some (.ref am), some (.ref as_), some (.int n), some (.int f), some (.ref d), x5, x6, some (.ref pd), some (.ref lf), some (.ref lb), x10, x11] ∧
      KB d Hq H' ∧ H' lf = some (.lst (fr.map V.int)) ∧ H' lb = some (.lst (beh.map V.int)) ∧ TrD K H' d T' ∧ TI M S n f T' ∧ T0 <+: T' ∧ (∀ m ∈ M, m.1 ∈ keysT T') ∧ (∀ r ∈ keysT T', 0 ≤ r ∧ r < R) ∧ T'.length = T.length + beh.length ∧ (∀ r ∈ fr, r ∈ keysT T') ∧ (∀ r ∈ beh, r ∈ keysT T') ∧ (∀ r ∈ keysT T', r ∈ beh ∨ r ∈ fr.drop i ∨ DoneT S n f T' r))
    ⟨T, [], _, _, _, rfl, kb, elf, elb, hT, ti, tp, tm, tb, rfl, tf, fun r hr => (nomatch hr), fun r hr => .inr (tc r hr)⟩ (fun i σ H' _ z => by obtain ⟨_, _, _, _, _, _, _, z, _⟩ := z; exact SqL.of z) ?_ ?_
  · clear kb elf elb hT ti tp tm tb glb gl0 el0 tf tc
    rintro i x σ H5 hx ⟨T1, beh, x5', x10', x11', rfl, kb, elf, elb, hT, ti, tp, tm, tb, tl, tf, tbh, tc⟩
    rw [List.getElem?_map] at hx
    cases hri : fr[i]? with
    | none => rw [hri] at hx; cases hx
    | some r =>
    rw [hri] at hx
    injection hx with hx
    subst hx
    have hpd5 := kb _ _ hpdd hpd
    have hrT := tf r (List.mem_of_getElem? hri)
    refine ⟨_, rfl, .inr (.inr (.inl ⟨rfl, .inl ⟨kvp, hpd5⟩⟩)), _, rfl, szl (by simp), fun l1 hl1 => ?_⟩
    have gl1 := same_new hl1 (.lst [])
    have el1 := upd_same (H := H5) (a := l1) (o := .lst [])
    have hl1b : l1 ≠ lb := (ne_of_none elb hl1).symm
    have hl1d : l1 ≠ d := fun z => by obtain ⟨k1, k2, _⟩ := hT; rw [z, k2] at hl1; cases hl1
    have kb := kb.then gl1
    have elf := gl1 _ _ elf
    have elb := gl1 _ _ elb
    have hT := hT.mono gl1
    have hpd6 := gl1 _ _ hpd5
    generalize upd H5 l1 (.lst []) = H6 at gl1 el1 kb elf elb hT hpd6 ⊢
    have hd1 : H1 d ≠ none := by obtain ⟨k1, k2, _⟩ := hT0; rw [k2]; exact fun z => nomatch z
    obtain ⟨la, hla1, hla2, hla3⟩ := pl_get (bk_kb bk hd1 kb) r el1
    refine ⟨pd, .int r, .ref l1, _, rfl, rfl, DGet.k (k := Sum.inl r) hpd6, ?_⟩
    rw [hla1]
    have hlad : la ≠ d := fun z => by obtain ⟨k1, k2, _⟩ := hT; rw [z, k2] at hla2; cases hla2
    have hlab : la ≠ lb := by
      rcases hla3 with rfl | ⟨z1, k, z2⟩
      · exact hl1b
      · obtain ⟨l', ys, e, _, _, h3, _⟩ := bk.there _ _ z2
        injection e with e
        subst e
        exact ne_of_none h3 hlb0
    refine ⟨la, rfl, ⟨_, SqL.of hla2⟩, ?_⟩
    refine for_list (xs := (placesOf n S r).map qV) (fun j σ H' => ∃ (T' : List En) (beh : List Int) (x5 x11 : Option V), σ = [some (.ref am), some (.ref as_), some (.int n), some (.int f), some (.ref d), x5, x6, some (.ref pd), some (.ref lf), some (.ref lb), some (.int r), x11] ∧
        KB d Hq H' ∧ H' lf = some (.lst (fr.map V.int)) ∧ H' lb = some (.lst (beh.map V.int)) ∧ H' la = some (.lst ((placesOf n S r).map qV)) ∧ TrD K H' d T' ∧ TI M S n f T' ∧ T0 <+: T' ∧ (∀ m ∈ M, m.1 ∈ keysT T') ∧ (∀ r ∈ keysT T', 0 ≤ r ∧ r < R) ∧ T'.length = T.length + beh.length ∧ (∀ r ∈ fr, r ∈ keysT T') ∧ (∀ r ∈ beh, r ∈ keysT T') ∧ (∀ r ∈ keysT T', r ∈ beh ∨ r ∈ fr.drop i ∨ DoneT S n f T' r) ∧
        (∀ q ∈ (placesOf n S r).take j, ∀ t, S[q]? = some t → sideOf f t ∈ keysT T'))
      ⟨T1, beh, _, _, rfl, kb, elf, elb, hla2, hT, ti, tp, tm, tb, tl, tf, tbh, tc, fun q hq => by simp at hq⟩ (fun j σ H' _ z => by obtain ⟨_, _, _, _, _, _, _, _, z, _⟩ := z; exact SqL.of z) ?_ ?_
    · clear kb elf elb hT ti tp tm tb tl tf tbh tc hla2 hpd6 el1 gl1
      rintro j y σ H7 hy ⟨T2, beh, x5'', x11'', rfl, kb, elf, elb, hla, hT, ti, tp, tm, tb, tl, tf, tbh, tc, td⟩
      rw [List.getElem?_map] at hy
      cases hqj : (placesOf n S r)[j]? with
      | none => rw [hqj] at hy; cases hy
      | some pq =>
      rw [hqj] at hy
      injection hy with hy
      subst hy
      obtain ⟨t, ht, htn⟩ := mem_placesOf.mp (List.mem_of_getElem? hqj)
      obtain ⟨vt, hvt, b, rfl, hb⟩ := paired_at hs2 ht
      have g7 := kb.same gq0 hd
      have hb7 := (Same.grow g7).seqT hb
      obtain ⟨kvs, hkd, hp⟩ := id hT
      have hkl : kvs.length ≤ 999 := by have := cap T2 ti tb; rw [← hp.length]; omega
      have hbl : beh.length ≤ 999 := by have := cap T2 ti tb; omega
      refine ⟨_, rfl, _, rfl, _, _, _, _, rfl, rfl, g7.seq hs1, atI_nat hvt, _, rfl, _, _, _, _, rfl, rfl, hb7, side_at hf t, ?_⟩
      refine ⟨_, rfl, _, rfl, d, _, rfl, DGet.k (k := Sum.inl (sideOf f t)) hkd, _, rfl, ?_⟩
      have tdone : ∀ {T' : List En}, (∀ x ∈ keysT T2, x ∈ keysT T') → sideOf f t ∈ keysT T' → ∀ q ∈ (placesOf n S r).take (j + 1), ∀ t, S[q]? = some t → sideOf f t ∈ keysT T' := fun up hin q' hq' t' ht' => by
        rw [take_get hqj] at hq'
        rcases List.mem_append.mp hq' with h | h
        · exact up _ (td q' h t' ht')
        · rw [List.mem_singleton.mp h, ht] at ht'
          injection ht' with ht'
          rw [← ht']; exact hin
      cases hv : valV kvs (Sum.inl (sideOf f t)) with
      | some v =>
        refine iteF ?_
        have hin : sideOf f t ∈ keysT T2 := Classical.byContradiction fun z => by rw [(val_none hp).mpr z] at hv; cases hv
        exact ⟨T2, beh, _, _, rfl, kb, elf, elb, hla, hT, ti, tp, tm, tb, tl, tf, tbh, tc, tdone (fun _ h => h) hin⟩
      | none =>
        have hnot := (val_none hp).mp hv
        refine iteT ?_
        obtain ⟨i0, e0, te, hi0, hk0, hval, hte⟩ := val_some hp (tf r (List.mem_of_getElem? hri))
        refine ⟨_, rfl, _, rfl, d, .ref te, rfl, hval ▸ DGet.k (k := Sum.inl r) hkd, _, _, _, _, rfl, rfl, hte, rfl, _, rfl, (by show 2 ≤ sizeLine; decide), fun p hp2 => ?_⟩
        have g8 := same_new hp2 (.tup [V.int (e0.2.1 : Int), qV pq])
        have e8 := upd_same (H := H7) (a := p) (o := .tup [V.int (e0.2.1 : Int), qV pq])
        have kb := kb.then g8
        have elf := g8 _ _ elf
        have elb := g8 _ _ elb
        have hla := g8 _ _ hla
        have hkd := g8 _ _ hkd
        have hp := paired_mono (fun _ _ => EnV.gt (GT.of g8)) hp
        generalize upd H7 p (.tup [V.int (e0.2.1 : Int), qV pq]) = H8 at g8 e8 kb elf elb hla hkd hp ⊢
        refine ⟨_, rfl, _, rfl, d, _, rfl, .inl ⟨kvs, Sum.inl (sideOf f t), hkd, rfl, szl' (by omega), rfl⟩, ?_⟩
        have hT9 := TrD.put (e := (sideOf f t, e0.2.1, some pq)) hkd hp hnot e8
        have kb := kb.here (o := .dK (putK kvs (Sum.inl (sideOf f t)) (.ref p)))
        have elf : upd H8 d (.dK (putK kvs (Sum.inl (sideOf f t)) (.ref p))) lf = _ := (upd_ne hfd).trans elf
        have elb : upd H8 d (.dK (putK kvs (Sum.inl (sideOf f t)) (.ref p))) lb = _ := (upd_ne hbd).trans elb
        have hla : upd H8 d (.dK (putK kvs (Sum.inl (sideOf f t)) (.ref p))) la = _ := (upd_ne hlad).trans hla
        generalize upd H8 d (.dK (putK kvs (Sum.inl (sideOf f t)) (.ref p))) = H9 at hT9 kb elf elb hla ⊢
        refine ⟨_, rfl, .inl ⟨rfl, _, SqL.of elb⟩, _, rfl, lb, _, _, rfl, rfl, elb, szl' (by rw [List.length_map]; omega), ?_⟩
        have up : ∀ x ∈ keysT T2, x ∈ keysT (T2 ++ [(sideOf f t, e0.2.1, some pq)]) := fun x hx => by rw [keys_snoc]; exact List.mem_append_left _ hx
        have hin : sideOf f t ∈ keysT (T2 ++ [(sideOf f t, e0.2.1, some pq)]) := by rw [keys_snoc]; exact List.mem_append_right _ (by simp)
        refine ⟨T2 ++ [(sideOf f t, e0.2.1, some pq)], beh ++ [sideOf f t], _, _, rfl, kb.new hlb0, (upd_ne hbf).trans elf, by rw [upd_same, List.map_append]; rfl, (upd_ne hlab).trans hla, TrD.gt (gt_lst elb _) (upd_ne hbd.symm) hT9,
          ti.snoc hnot (.inr ⟨pq, t, rfl, ht, rfl, i0, e0, (List.getElem?_eq_some_iff.mp hi0).1, hi0, by rw [hk0, htn], rfl⟩), tp.trans (List.prefix_append _ _), fun m hm => up _ (tm m hm), fun x hx => ?_, by rw [List.length_append, List.length_append, List.length_singleton, List.length_singleton]; omega, fun x hx => up _ (tf x hx), fun x hx => ?_, fun x hx => ?_, tdone up hin⟩
        · rw [keys_snoc] at hx
          rcases List.mem_append.mp hx with hx | hx
          · exact tb x hx
          · rw [List.mem_singleton.mp hx]; exact bs t (List.mem_of_getElem? ht)
        · rcases List.mem_append.mp hx with hx | hx
          · exact up _ (tbh x hx)
          · rw [List.mem_singleton.mp hx]; exact hin
        · rw [keys_snoc] at hx
          rcases List.mem_append.mp hx with hx | hx
          · rcases tc x hx with z | z | z
            · exact .inl (List.mem_append_left _ z)
            · exact .inr (.inl z)
            · exact .inr (.inr z.snoc)
          · exact .inl (List.mem_append_right _ hx)
    · rintro σ H7 ⟨T2, beh, x5'', x11'', rfl, kb, elf, elb, hla, hT, ti, tp, tm, tb, tl, tf, tbh, tc, td⟩
      rw [List.length_map, List.take_length] at td
      refine ⟨T2, beh, _, _, _, rfl, kb, elf, elb, hT, ti, tp, tm, tb, tl, tf, tbh, fun x hx => ?_⟩
      rcases tc x hx with z | z | z
      · exact .inl z
      · have e : fr.drop i = r :: fr.drop (i + 1) := by
          obtain ⟨h1, h2⟩ := List.getElem?_eq_some_iff.mp hri
          rw [List.drop_eq_getElem_cons h1, h2]
        rw [e] at z
        rcases List.mem_cons.mp z with z | z
        · refine .inr (.inr fun t ht hr => ?_)
          obtain ⟨pq, hpq⟩ := List.getElem?_of_mem ht
          exact td pq (mem_placesOf.mpr ⟨t, hpq, by rw [hr, z]⟩) t hpq
        · exact .inr (.inl z)
      · exact .inr (.inr z)
  · rintro σ H5 ⟨T1, beh, x5', x10', x11', rfl, kb, elf, elb, hT, ti, tp, tm, tb, tl, tf, tbh, tc⟩
    rw [List.length_map, List.drop_length] at tc
    have hc := cap T1 ti tb
    refine ⟨_, rfl, _, ?_, lb, beh, T1, _, _, _, _, rfl, rfl, kb, elb, hT, ti, tp, tm, tb, tbh, fun x hx => ?_⟩
    · omega
    · rcases tc x hx with z | z | z
      · exact .inl z
      · cases z
      · exact .inr z
theorem sc_traces_from_begins : FnScope ["scribe"] ["scribe"] (defScope s_traces_from_begins) := ⟨rfl, rfl, rfl, by decide +kernel, rfl, by decide +kernel, by decide +kernel⟩
theorem ok_traces_from_begins (B : Bi mg) {c_NotPlain : Addr} (XB : Xb K mg c_NotPlain) (C_traces_from : Cal P w K mg base "traces_from" ["marks", "steps", "near", "far"] 2 (spTraces K)) {f : Addr} {fd : FuncData} (F : Fun K "traces_from_begins" "traces_from_begins" s_traces_from_begins f fd) : FnOk P w K mg base CX0 3 f fd ["scribe"] (spTrB K) := by
  refine F.ok sc_traces_from_begins (fun vs H Q E h => ?_) (fun cdv A outer s H vs Q E hr h => ?_)
  · obtain ⟨v, s, pb, ps, pe, rfl, _⟩ := h; rfl
  obtain ⟨v, s, pb, ps, pe, rfl, hV, ok, q⟩ := h
  refine ⟨_, (pss_one (ps_ret (pe_fn C_traces_from hr (by decide : 2 ≤ 2) (by rfl) (pa_cons (pe_ix (kIx (K := K) rIxT ix_tup) (pv 0) (pe_globI (by rfl) B.BEGINS) (by intro _ _; rfl)) (pa_cons (pe_ix (kIx (K := K) rIxT ix_tup) (pv 0) (pe_globI (by rfl) B.STEPS) (by intro _ _; rfl)) (pa_cons (pe_globI (by rfl) B.OUT_OF) (pa_cons (pe_globI (by rfl) B.INTO) pa_nil))))))), ?_⟩
  obtain ⟨a, xb, xs, xe, rfl, h1, h2, h3, h4, h5, h6, h7⟩ := hV
  exact ⟨_, rfl, _, _, _, _, rfl, rfl, h1, rfl, _, rfl, _, _, _, _, rfl, rfl, h1, rfl, pb, s.begins, ps, s.steps, 0, 3, s.rooms, rfl, ⟨xb, h2, h5⟩, ⟨xs, h3, h6⟩, ok.lb, ok.ls, .inl rfl, .inr rfl, ok.lr, ok.mb, ok.side (.inr rfl), q⟩
theorem sc_traces_to_ends : FnScope ["scribe"] ["scribe"] (defScope s_traces_to_ends) := ⟨rfl, rfl, rfl, by decide +kernel, rfl, by decide +kernel, by decide +kernel⟩
theorem ok_traces_to_ends (B : Bi mg) {c_NotPlain : Addr} (XB : Xb K mg c_NotPlain) (C_traces_from : Cal P w K mg base "traces_from" ["marks", "steps", "near", "far"] 2 (spTraces K)) {f : Addr} {fd : FuncData} (F : Fun K "traces_to_ends" "traces_to_ends" s_traces_to_ends f fd) : FnOk P w K mg base CX0 3 f fd ["scribe"] (spTrE K) := by
  refine F.ok sc_traces_to_ends (fun vs H Q E h => ?_) (fun cdv A outer s H vs Q E hr h => ?_)
  · obtain ⟨v, s, pb, ps, pe, rfl, _⟩ := h; rfl
  obtain ⟨v, s, pb, ps, pe, rfl, hV, ok, q⟩ := h
  refine ⟨_, (pss_one (ps_ret (pe_fn C_traces_from hr (by decide : 2 ≤ 2) (by rfl) (pa_cons (pe_ix (kIx (K := K) rIxT ix_tup) (pv 0) (pe_globI (by rfl) B.ENDS) (by intro _ _; rfl)) (pa_cons (pe_ix (kIx (K := K) rIxT ix_tup) (pv 0) (pe_globI (by rfl) B.STEPS) (by intro _ _; rfl)) (pa_cons (pe_globI (by rfl) B.INTO) (pa_cons (pe_globI (by rfl) B.OUT_OF) pa_nil))))))), ?_⟩
  obtain ⟨a, xb, xs, xe, rfl, h1, h2, h3, h4, h5, h6, h7⟩ := hV
  exact ⟨_, rfl, _, _, _, _, rfl, rfl, h1, rfl, _, rfl, _, _, _, _, rfl, rfl, h1, rfl, pe, s.ends, ps, s.steps, 3, 0, s.rooms, rfl, ⟨xe, h4, h7⟩, ⟨xs, h3, h6⟩, ok.le, ok.ls, .inr rfl, .inl rfl, ok.lr, ok.me, ok.side (.inl rfl), q⟩
theorem sc_useful_rooms : FnScope ["scribe", "leading_on"] ["scribe"] (defScope s_useful_rooms) := ⟨rfl, rfl, rfl, by decide +kernel, rfl, by decide +kernel, by decide +kernel⟩
theorem ok_useful_rooms (B : Bi mg) {c_NotPlain : Addr} (XB : Xb K mg c_NotPlain) (C_traces_to_ends : Cal P w K mg base "traces_to_ends" ["scribe"] 3 (spTrE K)) (C_traces_from_begins : Cal P w K mg base "traces_from_begins" ["scribe"] 3 (spTrB K)) {f : Addr} {fd : FuncData} (F : Fun K "useful_rooms" "useful_rooms" s_useful_rooms f fd) : FnOk P w K mg base CX0 4 f fd ["scribe"] (spUseful K) := by
  refine F.ok sc_useful_rooms (fun vs H Q E h => ?_) (fun cdv A outer s H vs Q E hr h => ?_)
  · obtain ⟨v, s, pb, ps, pe, rfl, _⟩ := h; rfl
  obtain ⟨v, s, pb, ps, pe, rfl, hV, ok, hr64, q⟩ := h
  refine ⟨_, (pss_cons (ps_set (i := 1) sc_useful_rooms.nd rfl (Or.inr rfl) (pe_fn C_traces_to_ends hr (by decide : 3 ≤ 3) (by rfl) (pa_cons (pv 0) pa_nil)))
      (pss_one (ps_ret (pe_callB call_sorted_i (by rfl) B.sorted bt_sorted (pa_cons (pe_comp rfl (blk_mk (N' := ["room", "leading_on"]) (js := [none, some 1]) rfl (by decide +kernel) rfl (by decide +kernel) rfl rfl) (pi_keys (pe_fn C_traces_from_begins hr (by decide : 3 ≤ 3) (by rfl) (pa_cons (pv 0) pa_nil))) (fun _ _ _ _ _ => (pg_name (i := 0) (show List.Nodup (["room", "leading_on"] : List Str) by decide +kernel) rfl (Or.inl rfl))) (fun _ _ _ _ _ => (pf_one (pt_cmp (pc_din (hu_of hr) (pv 0) (pv 1))))) (fun _ _ _ _ _ => (pv 0))) pa_nil))))), ?_⟩
  refine ⟨_, rfl, v, s, pb, ps, pe, rfl, hV, ok, fun d2 T2 H1 g1 hd2 hT2 ok2 => ?_⟩
  refine ⟨_, rfl, v, s, pb, ps, pe, rfl, hV.mono g1, ok, fun d1 T1 H2 g2 hd1 hT1 ok1 => ?_⟩
  have hT2' := hT2.mono g2
  obtain ⟨kvs1, hk1, hp1⟩ := hT1
  obtain ⟨kvs2, hk2, hp2⟩ := hT2'
  have hd12 : d2 ≠ d1 := fun z => by obtain ⟨k, hk, _⟩ := hT2; rw [z, hd1] at hk; cases hk
  refine ⟨d1, kvs1, rfl, hk1, fun o => ?_⟩
  have hT64 := rooms_len ok hr64 ok1
  have hl1 : T1.length = kvs1.length := hp1.length
  have e1 : ∀ {b : Addr} {u : HO}, b ≠ d1 → H2 b = some u → upd H2 d1 (.frz o (.dK kvs1)) b = some u := fun hb z => (upd_ne hb).trans z
  have gH : Same H (upd H2 d1 (.frz o (.dK kvs1))) := same_updN (g1.trans g2) (g1.free hd1)
  have hfz : upd H2 d1 (.frz o (.dK kvs1)) d1 = some (.frz o (.dK kvs1)) := upd_same
  have hk2' := e1 hd12 hk2
  generalize upd H2 d1 (.frz o (.dK kvs1)) = H3 at gH hfz hk2' ⊢
  refine comp_keys (kvs := kvs1) (fun i ys τ H' => H3 = H' ∧ (∃ x, τ = [x, some (.ref d2)]) ∧ i ≤ kvs1.length ∧ ys = (((keysT T1).take i).filter fun r => decide (r ∈ keysT T2)).map V.int) ⟨rfl, ⟨_, rfl⟩, Nat.zero_le _, rfl⟩ (fun i ys τ H' z => z.1 ▸ hfz) ?_ ?_
  · rintro i kv ys τ _ hkv ⟨rfl, ⟨x, rfl⟩, hi, rfl⟩
    obtain ⟨e, he, hE, _⟩ := paired_get hp1 hkv
    have hki : (keysT T1)[i]? = some e.1 := by unfold keysT; rw [List.getElem?_map, he]; rfl
    have hil : i < kvs1.length := (List.getElem?_eq_some_iff.mp hkv).1
    have hyl : (((keysT T1).take i).filter fun r => decide (r ∈ keysT T2)).length ≤ 64 := by
      have := List.length_filter_le (fun r => decide (r ∈ keysT T2)) ((keysT T1).take i)
      rw [List.length_take] at this
      omega
    refine ⟨_, rfl, _, rfl, d2, _, rfl, DGet.k (k := kv.1) hk2', _, rfl, ?_⟩
    rw [hE]
    by_cases c : e.1 ∈ keysT T2
    · obtain ⟨i0, e0, t0, _, _, hv, _⟩ := val_some hp2 c
      rw [hv]
      refine iteT ⟨_, rfl, szl' (by rw [List.length_map]; omega), rfl, ⟨_, rfl⟩, hil, ?_⟩
      rw [take_get hki, List.filter_append, List.filter_cons_of_pos (by simpa using c), List.map_append]
      rfl
    · rw [(val_none hp2).mpr c]
      refine iteF ⟨rfl, ⟨_, rfl⟩, hil, ?_⟩
      rw [take_get hki, List.filter_append, List.filter_cons_of_neg (by simpa using c)]
      simp
  rintro ys τ _ ⟨rfl, _, _, rfl⟩ p hp
  have hkl : (keysT T1).length = kvs1.length := by unfold keysT; rw [List.length_map]; exact hl1
  rw [← hkl, List.take_length]
  have hfl := List.length_filter_le (fun r => decide (r ∈ keysT T2)) (keysT T1)
  have gp := gH.trans (same_new hp (.lst (((keysT T1).filter fun r => decide (r ∈ keysT T2)).map V.int)))
  refine ⟨p, _, rfl, SqL.of upd_same, by omega, fun l ns' h1 h2 hl => ?_⟩
  refine q l _ (gp.trans (same_new hl _)) (gp.free hl) ?_
  rw [useL_eq ok ok1 ok2 h1 h2]
  exact upd_same
theorem sc_marks_kept : FnScope ["marks", "numbers"] ["marks", "numbers"] (defScope s_marks_kept) := ⟨rfl, rfl, rfl, by decide +kernel, rfl, by decide +kernel, by decide +kernel⟩
theorem ok_marks_kept (B : Bi mg) {c_NotPlain : Addr} (XB : Xb K mg c_NotPlain)  {f : Addr} {fd : FuncData} (F : Fun K "marks_kept" "marks_kept" s_marks_kept f fd) : FnOk P w K mg base CX0 1 f fd ["marks", "numbers"] (spKeptM K) := by
  refine F.ok sc_marks_kept (fun vs H Q E h => ?_) (fun cdv A outer s H vs Q E hr h => ?_)
  · obtain ⟨am, M, d, us, rfl, _⟩ := h; rfl
  obtain ⟨am, M, d, us, rfl, ⟨xm, hm1, hm2⟩, lm, hd, q⟩ := h
  refine ⟨_, (pss_one (ps_ret (pe_comp rfl (blk_mk (N' := ["room", "word", "numbers"]) (js := [none, none, some 1]) rfl (by decide +kernel) rfl (by decide +kernel) rfl rfl) (kPI (K := K) (fun k => iList k _) (pi_list (pv 0))) (fun _ _ _ _ _ => (kPG (K := K) (fun k => gTup k 2 _) (pg_tup (n := 2) (by rfl) (pgs_cons (pg_name (i := 0) (show List.Nodup (["room", "word", "numbers"] : List Str) by decide +kernel) rfl (Or.inl rfl)) (pgs_cons (pg_name (i := 1) (show List.Nodup (["room", "word", "numbers"] : List Str) by decide +kernel) rfl (Or.inl rfl)) pgs_nil))))) (fun _ _ _ _ _ => (pf_one (pt_cmp (pc_din (hu_of hr) (pv 0) (pv 2))))) (fun _ _ _ _ _ => (pe_tup (pa_cons (pe_dget (hu_of hr) (pv 2) (pv 0) (by intro _ _; rfl)) (pa_cons (pv 1) pa_nil))))))), ?_⟩
  have hmx : M.length = xm.length := hm2.length
  refine ⟨_, rfl, am, rfl, ⟨xm, hm1⟩, ?_⟩
  refine comp_list (xs := xm) (fun i ys τ H' => Same H H' ∧ (∃ x y, τ = [x, y, some (.ref d)]) ∧ i ≤ xm.length ∧ Paired (MkV K H') (keptM us (M.take i)) ys) ⟨Same.refl _, ⟨_, _, rfl⟩, Nat.zero_le _, .nil⟩ (fun i ys τ H' z => z.1.seq hm1) ?_ ?_
  · rintro i x ys τ H1 hx ⟨g1, ⟨x0, y0, rfl⟩, hi, hP⟩
    obtain ⟨m, hm, b, rfl, hb⟩ := paired_get hm2 hx
    have hil : i < xm.length := (List.getElem?_eq_some_iff.mp hx).1
    have hb1 := (Same.grow g1).seqT hb
    have hd1 := g1 _ _ hd
    have hyl : ys.length ≤ 999 := by rw [← hP.length]; have := keptM_len us (M.take i); rw [List.length_take] at this; omega
    refine ⟨b, _, rfl, hb1, rfl, _, _, rfl, _, _, rfl, rfl, ?_⟩
    refine ⟨_, rfl, _, rfl, d, _, rfl, DGet.k (k := Sum.inl m.1) hd1, _, rfl, ?_⟩
    have hv := numK_val us 0 m.1
    cases hpl : placeIn us m.1 with
    | none =>
      rw [hpl] at hv
      rw [hv]
      refine iteF ⟨g1, ⟨_, _, rfl⟩, hil, ?_⟩
      unfold keptM
      rw [take_get hm, List.filterMap_append, List.filterMap_cons, hpl]
      simpa [keptM] using hP
    | some j =>
      rw [hpl] at hv
      have hv : valV (numK us 0) (Sum.inl m.1) = some (V.int (j : Int)) := by rw [hv]; simp
      rw [hv]
      refine iteT ⟨_, rfl, _, rfl, d, _, rfl, hv ▸ DGet.k (k := Sum.inl m.1) hd1, _, rfl, (by show 2 ≤ sizeLine; decide), fun p hp => ⟨szl' (by omega), g1.trans (same_new hp _), ⟨_, _, rfl⟩, hil, ?_⟩⟩
      unfold keptM
      rw [take_get hm, List.filterMap_append, List.filterMap_cons, hpl]
      exact paired_append (paired_mono (fun _ _ => MkV.mono (grow_new hp _)) hP) (.cons ⟨p, rfl, SqT.of upd_same⟩ .nil)
  rintro ys τ H1 ⟨g1, _, _, hP⟩ p hp
  rw [← hmx, List.take_length] at hP
  exact q p _ (g1.trans (same_new hp _)) (g1.free hp) ⟨ys, upd_same, paired_mono (fun _ _ => MkV.mono (grow_new hp _)) hP⟩
theorem sc_steps_kept : FnScope ["steps", "numbers", "kept"] ["steps", "numbers"] (defScope s_steps_kept) := ⟨rfl, rfl, rfl, by decide +kernel, rfl, by decide +kernel, by decide +kernel⟩
theorem ok_steps_kept (B : Bi mg) {c_NotPlain : Addr} (XB : Xb K mg c_NotPlain)  {f : Addr} {fd : FuncData} (F : Fun K "steps_kept" "steps_kept" s_steps_kept f fd) : FnOk P w K mg base CX0 1 f fd ["steps", "numbers"] (spKeptS K) := by
  refine F.ok sc_steps_kept (fun vs H Q E h => ?_) (fun cdv A outer s H vs Q E hr h => ?_)
  · obtain ⟨as_, S, d, us, rfl, _⟩ := h; rfl
  obtain ⟨as_, S, d, us, rfl, ⟨xs, hs1, hs2⟩, ls, hd, q⟩ := h
  refine ⟨_, (pss_cons (ps_compset (i := 2) sc_steps_kept.nd rfl (Or.inl rfl) (by rfl) (by rfl) (blk_mk (N' := ["step", "numbers"]) (js := [none, some 1]) rfl (by decide +kernel) rfl (by decide +kernel) rfl rfl) (kPI (K := K) (fun k => iList k _) (pi_list (pv 0))) (fun _ _ _ _ _ => (pg_name (i := 0) (show List.Nodup (["step", "numbers"] : List Str) by decide +kernel) rfl (Or.inl rfl))) (fun _ _ _ _ _ => (pf_one (PW.pt (pw_and (pt_cmp (pc_din (hu_of hr) (pe_ix (kIx (K := K) rIxT ix_tup) (pv 0) (pe_globI (by rfl) B.OUT_OF) (by intro _ _; rfl)) (pv 1))) (pw_and1 (pt_cmp (pc_din (hu_of hr) (pe_ix (kIx (K := K) rIxT ix_tup) (pv 0) (pe_globI (by rfl) B.INTO) (by intro _ _; rfl)) (pv 1)))))))) (fun _ _ _ _ _ => (pv 0)))
      (pss_one (ps_ret (pe_comp rfl (blk_mk (N' := ["start", "sign", "word", "goal", "numbers"]) (js := [none, none, none, none, some 1]) rfl (by decide +kernel) rfl (by decide +kernel) rfl rfl) (kPI (K := K) (fun k => iList k _) (pi_list (pv 2))) (fun _ _ _ _ _ => (kPG (K := K) (fun k => gTup k 4 _) (pg_tup (n := 4) (by rfl) (pgs_cons (pg_name (i := 0) (show List.Nodup (["start", "sign", "word", "goal", "numbers"] : List Str) by decide +kernel) rfl (Or.inl rfl)) (pgs_cons (pg_name (i := 1) (show List.Nodup (["start", "sign", "word", "goal", "numbers"] : List Str) by decide +kernel) rfl (Or.inl rfl)) (pgs_cons (pg_name (i := 2) (show List.Nodup (["start", "sign", "word", "goal", "numbers"] : List Str) by decide +kernel) rfl (Or.inl rfl)) (pgs_cons (pg_name (i := 3) (show List.Nodup (["start", "sign", "word", "goal", "numbers"] : List Str) by decide +kernel) rfl (Or.inl rfl)) pgs_nil))))))) (fun _ _ _ _ _ => pf_nil) (fun _ _ _ _ _ => (pe_tup (pa_cons (pe_dget (hu_of hr) (pv 4) (pv 0) (by intro _ _; rfl)) (pa_cons (pv 1) (pa_cons (pv 2) (pa_cons (pe_dget (hu_of hr) (pv 4) (pv 3) (by intro _ _; rfl)) pa_nil)))))))))), ?_⟩
  have hsx : S.length = xs.length := hs2.length
  refine ⟨_, rfl, as_, rfl, ⟨xs, hs1⟩, ?_⟩
  refine comp_list (xs := xs) (fun i ys τ H' => H = H' ∧ (∃ x, τ = [x, some (.ref d)]) ∧ i ≤ xs.length ∧ Paired (StV K H) ((S.take i).filter (inUs us)) ys) ⟨rfl, ⟨_, rfl⟩, Nat.zero_le _, .nil⟩ (fun i ys τ H' z => z.1 ▸ hs1) ?_ ?_
  · rintro i x ys τ _ hx ⟨rfl, ⟨x0, rfl⟩, hi, hP⟩
    obtain ⟨t, ht, b, rfl, hb⟩ := paired_get hs2 hx
    have hil : i < xs.length := (List.getElem?_eq_some_iff.mp hx).1
    have hyl : ys.length ≤ 999 := by
      rw [← hP.length]
      have := List.length_filter_le (inUs us) (S.take i)
      rw [List.length_take] at this; omega
    have no : inUs us t = false → Paired (StV K H) ((S.take (i + 1)).filter (inUs us)) ys := fun z => by
      rw [take_get ht, List.filter_append, List.filter_cons_of_neg (by rw [z]; exact Bool.false_ne_true), List.filter_nil, List.append_nil]
      exact hP
    refine ⟨_, rfl, _, _, _, _, rfl, rfl, hb, rfl, _, rfl, d, _, rfl, DGet.k (k := Sum.inl t.1) hd, _, rfl, ?_⟩
    cases h1 : placeIn us t.1 with
    | none =>
      rw [numK_none h1]
      exact iteF ⟨rfl, ⟨_, rfl⟩, hil, no (by unfold inUs; rw [h1]; rfl)⟩
    | some j1 =>
    rw [numK_some h1]
    refine iteT ?_
    refine ⟨_, rfl, _, _, _, _, rfl, rfl, hb, rfl, _, rfl, d, _, rfl, DGet.k (k := Sum.inl t.2.2.2) hd, _, rfl, ?_⟩
    cases h2 : placeIn us t.2.2.2 with
    | none =>
      rw [numK_none h2]
      exact iteF ⟨rfl, ⟨_, rfl⟩, hil, no (by unfold inUs; rw [h1, h2]; rfl)⟩
    | some j2 =>
    rw [numK_some h2]
    refine iteT ⟨_, rfl, szl' (by omega), rfl, ⟨_, rfl⟩, hil, ?_⟩
    rw [take_get ht, List.filter_append, List.filter_cons_of_pos (by unfold inUs; rw [h1, h2]; rfl), List.filter_nil]
    exact paired_append hP (.cons ⟨b, rfl, hb⟩ .nil)
  rintro zs τ _ ⟨rfl, _, _, hP⟩ l0 hl0
  rw [← hsx, List.take_length] at hP
  have g0 := same_new hl0 (.lst zs)
  have e0 := upd_same (H := H) (a := l0) (o := .lst zs)
  have hd0 := g0 _ _ hd
  have hP := paired_mono (fun _ _ => StV.mono (Same.grow g0)) hP
  generalize upd H l0 (.lst zs) = H0 at g0 e0 hd0 hP ⊢
  have hzl : (S.filter (inUs us)).length = zs.length := hP.length
  have hz9 : zs.length ≤ 999 := by rw [← hzl]; have := List.length_filter_le (inUs us) S; omega
  refine ⟨_, rfl, l0, rfl, ⟨zs, SqL.of e0⟩, ?_⟩
  refine comp_list (xs := zs) (fun i ys τ H' => Same H0 H' ∧ (∃ x1 x2 x3 x4, τ = [x1, x2, x3, x4, some (.ref d)]) ∧ i ≤ zs.length ∧ ys.length = i ∧ Paired (StV K H') (((S.filter (inUs us)).take i).map (newSt us)) ys) ⟨Same.refl _, ⟨_, _, _, _, rfl⟩, Nat.zero_le _, rfl, .nil⟩ (fun i ys τ H' z => SqL.of (z.1 _ _ e0)) ?_ ?_
  · rintro i x ys τ H1 hx ⟨g1, ⟨x1, x2, x3, x4, rfl⟩, hi, hyl, hP1⟩
    obtain ⟨t, ht, b, rfl, hb⟩ := paired_get hP hx
    have hil : i < zs.length := (List.getElem?_eq_some_iff.mp hx).1
    have hb1 := (Same.grow g1).seqT hb
    have hd1 := g1 _ _ hd0
    have htu : inUs us t = true := (List.mem_filter.mp (List.mem_of_getElem? ht)).2
    unfold inUs at htu
    rw [Bool.and_eq_true] at htu
    obtain ⟨j1, h1⟩ := Option.isSome_iff_exists.mp htu.1
    obtain ⟨j2, h2⟩ := Option.isSome_iff_exists.mp htu.2
    refine ⟨b, _, rfl, hb1, rfl, _, _, rfl, _, _, rfl, _, _, rfl, _, _, rfl, rfl, ?_⟩
    refine ⟨_, rfl, _, rfl, d, _, rfl, numK_some h1 ▸ DGet.k (k := Sum.inl t.1) hd1, _, rfl, _, rfl, _, rfl, _, rfl, d, _, rfl, numK_some h2 ▸ DGet.k (k := Sum.inl t.2.2.2) hd1, (by show 4 ≤ sizeLine; decide), fun p hp => ⟨szl' (by omega), g1.trans (same_new hp _), ⟨_, _, _, _, rfl⟩, hil, by rw [List.length_append, hyl]; rfl, ?_⟩⟩
    rw [take_get ht, List.map_append]
    refine paired_append (paired_mono (fun _ _ => StV.mono (grow_new hp _)) hP1) (.cons ⟨p, rfl, ?_⟩ .nil)
    unfold newSt
    rw [h1, h2]
    exact SqT.of upd_same
  rintro ys τ H1 ⟨g1, _, _, _, hP1⟩ p hp
  rw [← hzl, List.take_length] at hP1
  exact q p _ ((g0.trans g1).trans (same_new hp _)) ((g0.trans g1).free hp) ⟨ys, upd_same, paired_mono (fun _ _ => StV.mono (grow_new hp _)) hP1⟩
theorem sc_trimmed_of : FnScope ["scribe", "numbers", "room", "begins", "steps", "ends"] ["scribe"] (defScope s_trimmed_of) := ⟨rfl, rfl, rfl, by decide +kernel, rfl, by decide +kernel, by decide +kernel⟩
theorem ok_trimmed_of (B : Bi mg) {c_NotPlain : Addr} (XB : Xb K mg c_NotPlain) (C_useful_rooms : Cal P w K mg base "useful_rooms" ["scribe"] 4 (spUseful K)) (C_marks_kept : Cal P w K mg base "marks_kept" ["marks", "numbers"] 1 (spKeptM K)) (C_steps_kept : Cal P w K mg base "steps_kept" ["steps", "numbers"] 1 (spKeptS K)) {f : Addr} {fd : FuncData} (F : Fun K "trimmed_of" "trimmed_of" s_trimmed_of f fd) : FnOk P w K mg base CX0 5 f fd ["scribe"] (spTrim K) := by
  refine F.ok sc_trimmed_of (fun vs H Q E h => ?_) (fun cdv A outer s H vs Q E hr h => ?_)
  · obtain ⟨v, s, pb, ps, pe, rfl, _⟩ := h; rfl
  obtain ⟨v, s, pb, ps, pe, rfl, hV, ok, hr64, q⟩ := h
  refine ⟨_, (pss_cons (ps_set (i := 1) sc_trimmed_of.nd rfl (Or.inl rfl) pe_dnewK)
      (pss_cons (ps_for PassesOwn.never (by rfl) (kPI (K := K) (fun k => iList k _) (pi_list (pe_fn C_useful_rooms hr (by decide : 4 ≤ 4) (by rfl) (pa_cons (pv 0) pa_nil)))) (pg_name (i := 2) sc_trimmed_of.nd rfl (Or.inl rfl)) (pss_one (ps_dput (hu_of hr) (pv 1) (pv 2) (pe_callB call_len_d (by rfl) B.len bt_len (pa_cons (pv 1) pa_nil)) rfl)))
      (pss_cons (ps_set (i := 3) sc_trimmed_of.nd rfl (Or.inl rfl) (pe_fn C_marks_kept hr (by decide : 1 ≤ 4) (by rfl) (pa_cons (pe_ix (kIx (K := K) rIxT ix_tup) (pv 0) (pe_globI (by rfl) B.BEGINS) (by intro _ _; rfl)) (pa_cons (pv 1) pa_nil))))
      (pss_cons (ps_set (i := 4) sc_trimmed_of.nd rfl (Or.inl rfl) (pe_fn C_steps_kept hr (by decide : 1 ≤ 4) (by rfl) (pa_cons (pe_ix (kIx (K := K) rIxT ix_tup) (pv 0) (pe_globI (by rfl) B.STEPS) (by intro _ _; rfl)) (pa_cons (pv 1) pa_nil))))
      (pss_cons (ps_set (i := 5) sc_trimmed_of.nd rfl (Or.inl rfl) (pe_fn C_marks_kept hr (by decide : 1 ≤ 4) (by rfl) (pa_cons (pe_ix (kIx (K := K) rIxT ix_tup) (pv 0) (pe_globI (by rfl) B.ENDS) (by intro _ _; rfl)) (pa_cons (pv 1) pa_nil))))
      (pss_one (ps_ret (pe_tup (pa_cons (pe_ix (kIx (K := K) rIxT ix_tup) (pv 0) (pe_globI (by rfl) B.SIGNS) (by intro _ _; rfl)) (pa_cons (pe_callB call_len_d (by rfl) B.len bt_len (pa_cons (pv 1) pa_nil)) (pa_cons (pv 3) (pa_cons (pv 4) (pa_cons (pv 5) pa_nil))))))))))))), ?_⟩
  have hV0 := hV
  obtain ⟨a, xb, xs, xe, rfl, h1, h2, h3, h4, h5, h6, h7⟩ := hV
  have hul := useL_len hr64
  have hnd : (useL s).Nodup := (useL_sorted s).imp fun h => by omega
  refine fun d hd => ?_
  have g0 := same_new hd (.dK [])
  have e0 := upd_same (H := H) (a := d) (o := .dK [])
  generalize upd H d (.dK []) = H0 at g0 e0 ⊢
  refine ⟨_, rfl, _, s, pb, ps, pe, rfl, hV0.mono g0, ok, hr64, fun lu H1 g1 hlu elu => ?_⟩
  have ed1 := g1 _ _ e0
  have hld : lu ≠ d := fun z => by rw [z, ed1] at elu; cases elu
  refine ⟨lu, rfl, ⟨_, SqL.of elu⟩, ?_⟩
  refine for_list (xs := (useL s).map V.int) (fun i σ H' => Same H H' ∧ (∃ x, σ = [some (.ref a), some (.ref d), x, none, none, none]) ∧ i ≤ (useL s).length ∧ H' lu = some (.lst ((useL s).map V.int)) ∧ H' d = some (.dK (numK ((useL s).take i) 0))) ⟨g0.trans g1, ⟨_, rfl⟩, Nat.zero_le _, elu, ed1⟩ (fun i σ H' _ z => SqL.of z.2.2.2.1) ?_ ?_
  · rintro i x σ H2 hx ⟨g2, ⟨x2, rfl⟩, hi, elu2, ed2⟩
    rw [List.getElem?_map] at hx
    cases hri : (useL s)[i]? with
    | none => rw [hri] at hx; cases hx
    | some u =>
    rw [hri] at hx
    injection hx with hx
    subst hx
    have hil : i < (useL s).length := (List.getElem?_eq_some_iff.mp hri).1
    have htl : ((useL s).take i).length = i := by rw [List.length_take]; omega
    have hnn : valV (numK ((useL s).take i) 0) (Sum.inl u) = none := by
      refine numK_none (placeIn_snoc_none (r := 0) ?_)
      rw [← take_get hri]
      exact hnd.sublist (List.take_sublist _ _)
    have hlen : (numK ((useL s).take i) 0).length = i := by rw [numK_len, htl]
    refine ⟨_, rfl, d, _, rfl, .inl ⟨_, ed2, rfl⟩, _, rfl, _, rfl, d, _, rfl, .inl ⟨_, Sum.inl u, ed2, rfl, szl' (by omega), rfl⟩, ?_⟩
    refine ⟨same_updN g2 hd, ⟨_, rfl⟩, hil, (upd_ne hld).trans elu2, ?_⟩
    rw [upd_same, putK_new _ hnn, take_get hri, numK_snoc, hlen, htl, Nat.zero_add]
  rintro σ H2 ⟨g2, ⟨x2, rfl⟩, _, elu2, ed2⟩
  rw [List.length_map, List.take_length] at ed2
  refine ⟨_, rfl, _, _, _, _, rfl, rfl, Same.seqT g2 h1, rfl, _, rfl, pb, s.begins, d, useL s, rfl, ⟨xb, g2.seq h2, paired_mono (fun _ _ => MkV.mono (Same.grow g2)) h5⟩, ok.lb, ed2, fun qb H3 g3 hqb ⟨yb, eb, pB⟩ => ?_⟩
  have g23 := g2.trans g3
  refine ⟨_, rfl, _, _, _, _, rfl, rfl, Same.seqT g23 h1, rfl, _, rfl, ps, s.steps, d, useL s, rfl, ⟨xs, g23.seq h3, paired_mono (fun _ _ => StV.mono (Same.grow g23)) h6⟩, ok.ls, g3 _ _ ed2, fun qs H4 g4 hqs ⟨ys, es, pS⟩ => ?_⟩
  have g24 := g23.trans g4
  refine ⟨_, rfl, _, _, _, _, rfl, rfl, Same.seqT g24 h1, rfl, _, rfl, pe, s.ends, d, useL s, rfl, ⟨xe, g24.seq h4, paired_mono (fun _ _ => MkV.mono (Same.grow g24)) h7⟩, ok.le, (g3.trans g4) _ _ ed2, fun qe H5 g5 hqe ⟨ye, ee, pE⟩ => ?_⟩
  have g25 := g24.trans g5
  refine ⟨_, rfl, _, _, _, _, rfl, rfl, Same.seqT g25 h1, rfl, _, rfl, d, _, rfl, .inl ⟨_, ((g3.trans g4).trans g5) _ _ ed2, rfl⟩, _, rfl, _, rfl, _, rfl, (by show 5 ≤ sizeLine; decide), fun v hv => ?_⟩
  rw [numK_len]
  have gv := same_new hv (.tup [V.str s.signs, V.int ((useL s).length : Int), V.ref qb, V.ref qs, V.ref qe])
  have G3 := (g4.trans g5).trans gv
  have G4 := g5.trans gv
  have AP : Apart H qb qs qe := ⟨g2.free hqb, g23.free hqs, g24.free hqe, ne_of_none eb hqs, ne_of_none (g4 _ _ eb) hqe, ne_of_none es hqe⟩
  exact q _ _ qb qs qe (g25.trans gv) ⟨v, yb, ys, ye, rfl, SqT.of upd_same, G3 _ _ eb, G4 _ _ es, gv _ _ ee, paired_mono (fun _ _ => MkV.mono (Same.grow G3)) pB, paired_mono (fun _ _ => StV.mono (Same.grow G4)) pS, paired_mono (fun _ _ => MkV.mono (Same.grow gv)) pE⟩ AP
theorem sc_shared_length : FnScope ["one", "other", "sure", "most", "middle"] ["one", "other"] (defScope s_shared_length) := ⟨rfl, rfl, rfl, by decide +kernel, rfl, by decide +kernel, by decide +kernel⟩
theorem ok_shared_length (B : Bi mg) {c_NotPlain : Addr} (XB : Xb K mg c_NotPlain)  {f : Addr} {fd : FuncData} (F : Fun K "shared_length" "shared_length" s_shared_length f fd) : FnOk P w K mg base CX0 1 f fd ["one", "other"] (spSharedL) := by
  refine F.ok sc_shared_length (fun vs H Q E h => ?_) (fun cdv A outer s H vs Q E hr h => ?_)
  · obtain ⟨a, b, rfl, _⟩ := h; rfl
  obtain ⟨a, b, rfl, ha, hb, q⟩ := h
  refine ⟨_, (pss_cons (ps_set (i := 2) sc_shared_length.nd rfl (Or.inl rfl) pe_int)
      (pss_cons (ps_set (i := 3) sc_shared_length.nd rfl (Or.inl rfl) (pe_callB (call_min2 (by rfl)) (by rfl) B.min bt_min (pa_cons (pe_callB call_len_str (by rfl) B.len bt_len (pa_cons (pv 0) pa_nil)) (pa_cons (pe_callB call_len_str (by rfl) B.len bt_len (pa_cons (pv 1) pa_nil)) pa_nil))))
      (pss_cons (ps_while PassesOwn.never (pt_cmpR op_lt (pv 2) (pv 3) (nomark _)) (pss_cons (ps_set (i := 4) sc_shared_length.nd rfl (Or.inl rfl) (pe_op op_fdiv (pe_op op_add (pe_op op_add (pv 2) (pv 3)) pe_int) pe_int))
      (pss_one (ps_if (pt_cmpR op_eq (pe_slice sl_str (pv 0) (po_some (pv 2)) (po_some (pv 4))) (pe_slice sl_str (pv 1) (po_some (pv 2)) (po_some (pv 4))) (nomark _)) (pss_one (ps_set (i := 2) sc_shared_length.nd rfl (Or.inl rfl) (pv 4))) (pss_one (ps_set (i := 3) sc_shared_length.nd rfl (Or.inl rfl) (pe_op op_sub (pv 4) pe_int)))))))
      (pss_one (ps_ret (pv 2)))))), ?_⟩
  have hL := L_le a b
  refine ⟨_, rfl, a, rfl, szl (by omega), _, rfl, b, rfl, szl (by omega), _, _, rfl, ?_⟩
  refine while_by (fun σ H' => H = H' ∧ ∃ (i j : Int) (x : Option V), σ = [some (.str a), some (.str b), some (.int i), some (.int j), x] ∧ 0 ≤ i ∧ i ≤ L a b ∧ L a b ≤ j ∧ j ≤ a.length ∧ j ≤ b.length)
    (fun (σ : L2.St) _ => match σ[2]?, σ[3]? with | some (some (V.int i)), some (some (V.int j)) => (j - i).toNat | _, _ => 0) ?_ ?_ ?_
  · refine ⟨rfl, _, _, _, rfl, Int.le_refl 0, hL.1, ?_, ?_, ?_⟩ <;> (split <;> omega)
  · rintro σ H' ⟨rfl, i, j, x, rfl, h0, h1, h2, h3, h4⟩
    refine ⟨_, rfl, _, rfl, _, _, rfl, rfl, _, rfl, ?_⟩
    refine iteDd (fun c => ?_) (fun c => ?_)
    · refine ⟨_, rfl, _, rfl, _, _, rfl, rfl, _, _, rfl, rfl, _, _, rfl, rfl, ⟨by decide, by decide⟩, ?_⟩
      refine ⟨_, rfl, _, rfl, _, rfl, _, rfl, _, rfl, a, rfl, szl (by omega), _, rfl, _, rfl, _, rfl, _, rfl, _, rfl, b, rfl, szl (by omega), rfl, _, rfl, ?_⟩
      have mt := mid_test (a := a) (b := b) (i := i) (j := (i + j + 1) / 2) h0 (by omega) (by omega) (by omega) h1
      refine iteDd (fun c2 => ?_) (fun c2 => ?_)
      · have c3 := mt.mp (V.str.inj c2)
        refine ⟨_, rfl, ?_⟩
        refine ⟨⟨rfl, _, _, _, rfl, ?_, c3, h2, h3, h4⟩, ?_⟩
        · omega
        · show (j - (i + j + 1) / 2).toNat < (j - i).toNat
          omega
      · have c3 : ¬ (i + j + 1) / 2 ≤ L a b := fun h => c2 (congrArg V.str (mt.mpr h))
        refine ⟨_, rfl, _, _, rfl, rfl, ?_⟩
        refine ⟨⟨rfl, _, _, _, rfl, h0, h1, ?_, ?_, ?_⟩, ?_⟩
        · omega
        · omega
        · omega
        · show ((i + j + 1) / 2 - 1 - i).toNat < (j - i).toNat
          omega
    · refine ⟨_, rfl, ?_⟩
      have e : i = L a b := by omega
      rw [e]
      exact q
  · rintro σ H' Q1 Q2 hm ⟨v, e, u, e', i, j, e1, e2, k, e3, q'⟩
    exact ⟨v, e, u, e', i, j, e1, e2, k, e3, hm _ _ q'⟩
theorem sc_words_to_ends : FnScope ["scribe", "words", "room", "trace", "step"] ["scribe"] (defScope s_words_to_ends) := ⟨rfl, rfl, rfl, by decide +kernel, rfl, by decide +kernel, by decide +kernel⟩
theorem ok_words_to_ends (B : Bi mg) {c_NotPlain : Addr} (XB : Xb K mg c_NotPlain) (C_traces_to_ends : Cal P w K mg base "traces_to_ends" ["scribe"] 3 (spTrE K)) {f : Addr} {fd : FuncData} (F : Fun K "words_to_ends" "words_to_ends" s_words_to_ends f fd) : FnOk P w K mg base CX0 4 f fd ["scribe"] (spToEnds K) := by
  refine F.ok sc_words_to_ends (fun vs H Q E h => ?_) (fun cdv A outer s H vs Q E hr h => ?_)
  · obtain ⟨v, s, pb, ps, pe, L, rfl, _⟩ := h; rfl
  obtain ⟨v, s, pb, ps, pe, L, rfl, hV, ok, wl, hL, q⟩ := h
  refine ⟨_, (pss_cons (ps_set (i := 1) sc_words_to_ends.nd rfl (Or.inl rfl) pe_dnewK)
      (pss_cons (ps_for PassesOwn.never (by rfl) (pi_items (pe_fn C_traces_to_ends hr (by decide : 3 ≤ 3) (by rfl) (pa_cons (pv 0) pa_nil))) (kPG (K := K) (fun k => gTup k 2 _) (pg_tup (n := 2) (by rfl) (pgs_cons (pg_name (i := 2) sc_words_to_ends.nd rfl (Or.inl rfl)) (pgs_cons (pg_name (i := 3) sc_words_to_ends.nd rfl (Or.inl rfl)) pgs_nil)))) (pss_one (ps_if (pt_cmpR op_isN (pe_ix (kIx (K := K) rIxT ix_tup) (pv 3) pe_int (by intro _ _; rfl)) pe_non (nomark _)) (pss_one (ps_dput (hu_of hr) (pv 1) (pv 2) (pe_ix (kIx (K := K) rIxT ix_tup) (pe_ix (kIx (K := K) rIxL ix_list) (pe_ix (kIx (K := K) rIxT ix_tup) (pv 0) (pe_globI (by rfl) B.ENDS) (by intro _ _; rfl)) (pe_ix (kIx (K := K) rIxT ix_tup) (pv 3) pe_int (by intro _ _; rfl)) (by intro _ _; rfl)) pe_int (by intro _ _; rfl)) rfl)) (pss_cons (ps_set (i := 4) sc_words_to_ends.nd rfl (Or.inl rfl) (pe_ix (kIx (K := K) rIxL ix_list) (pe_ix (kIx (K := K) rIxT ix_tup) (pv 0) (pe_globI (by rfl) B.STEPS) (by intro _ _; rfl)) (pe_ix (kIx (K := K) rIxT ix_tup) (pv 3) pe_int (by intro _ _; rfl)) (by intro _ _; rfl)))
      (pss_one (ps_dput (hu_of hr) (pv 1) (pv 2) (pe_op op_add_str (pe_ix (kIx (K := K) rIxT ix_tup) (pv 4) pe_int (by intro _ _; rfl)) (pe_dget (hu_of hr) (pv 1) (pe_ix (kIx (K := K) rIxT ix_tup) (pv 4) pe_int (by intro _ _; rfl)) (by intro _ _; rfl))) rfl))))))
      (pss_one (ps_ret (pv 1))))), ?_⟩
  have hV0 := hV
  obtain ⟨a, xb, xs, xe, rfl, h1, h2, h3, h4, h5, h6, h7⟩ := hV
  refine fun d hd => ?_
  have g0 := same_new hd (.dK [])
  have e0 := upd_same (H := H) (a := d) (o := .dK [])
  generalize upd H d (.dK []) = H0 at g0 e0 ⊢
  refine ⟨_, rfl, _, s, pb, ps, pe, rfl, hV0.mono g0, ok, fun d1 T H1 g1 hd1 hT okT => ?_⟩
  obtain ⟨kvs, hk, hp⟩ := hT
  have ed := g1 _ _ e0
  have hdd : d ≠ d1 := fun z => by rw [z, hd1] at e0; cases e0
  have hlen : T.length = kvs.length := hp.length
  have hcap : T.length ≤ 999 := by
    have := len_bnd s.rooms.toNat (keysT T) okT.ti.nd fun x hx => by have := okT.bnd x hx; omega
    unfold keysT at this
    rw [List.length_map] at this
    have := ok.lr
    omega
  have hTr : T.length ≤ s.rooms.toNat := by
    have := len_bnd s.rooms.toNat (keysT T) okT.ti.nd fun x hx => by have := okT.bnd x hx; omega
    unfold keysT at this
    rw [List.length_map] at this
    exact this
  have hbig : ∀ i, i ≤ kvs.length → L * i ≤ L * s.rooms.toNat := fun i hi => Nat.mul_le_mul_left L (by omega)
  obtain ⟨hL1, hL2⟩ := hL
  refine ⟨d1, kvs, rfl, hk, fun o => ?_⟩
  have gH : Same H (upd H1 d1 (.frz o (.dK kvs))) := same_updN (g0.trans g1) (g0.free hd1)
  have hfz : upd H1 d1 (.frz o (.dK kvs)) d1 = some (.frz o (.dK kvs)) := upd_same
  have ed2 : upd H1 d1 (.frz o (.dK kvs)) d = some (.dK []) := (upd_ne hdd).trans ed
  have gT : GT H1 (upd H1 d1 (.frz o (.dK kvs))) := gt_upd hk (fun _ z => nomatch z) (fun _ _ z => nomatch z) _
  have hp := paired_mono (fun _ _ => EnV.gt gT) hp
  generalize upd H1 d1 (.frz o (.dK kvs)) = H2 at gH hfz ed2 hp ⊢
  refine for_items (kvs := kvs) (fun i σ H' => Same H H' ∧ GT H2 H' ∧ i ≤ kvs.length ∧ H' d1 = some (.frz o (.dK kvs)) ∧ (∃ x2 x3 x4, σ = [some (.ref a), some (.ref d), x2, x3, x4]) ∧ ∃ W : List (Int × Str), H' d = some (.dK (wK W)) ∧ W.map (·.1) = (keysT T).take i ∧ (∀ e ∈ W, Wr s e.1 e.2 ∧ e.2.length ≤ L * i) ∧ (∀ e ∈ T.take i, e.2.2 = none → ∃ m ∈ s.ends, m.1 = e.1 ∧ (e.1, m.2) ∈ W))
    ⟨gH, GT.of (Same.refl _), Nat.zero_le _, hfz, ⟨_, _, _, rfl⟩, [], ed2, by simp, (fun e he => nomatch he), fun e he => by simp at he⟩ (fun i σ H' _ z => z.2.2.2.1) ?_ ?_
  · rintro i k y p0 σ H3 hkv ⟨g3, gt3, hi, hf3, ⟨x2, x3, x4, rfl⟩, W, hd3, hW, hWr, hWe⟩ hp0
    obtain ⟨e, he, hE1, t0, hE2, hE3⟩ := paired_get hp hkv
    have hE1 : k = Sum.inl e.1 := hE1
    have hE2 : y = .ref t0 := hE2
    subst hE1 hE2
    have hil : i < kvs.length := (List.getElem?_eq_some_iff.mp hkv).1
    have gp := same_new hp0 (.tup [kV (Sum.inl e.1), V.ref t0])
    have ep := upd_same (H := H3) (a := p0) (o := .tup [kV (Sum.inl e.1), V.ref t0])
    have hd3 := gp _ _ hd3
    have hf3 := gp _ _ hf3
    have hT3 := (gt3.trans (GT.of gp)).seqT hE3
    have gt3 := gt3.trans (GT.of gp)
    have g3 := g3.trans gp
    generalize upd H3 p0 (.tup [kV (Sum.inl e.1), V.ref t0]) = H4 at gp ep hd3 hf3 hT3 gt3 g3 ⊢
    have hki : (keysT T)[i]? = some e.1 := by unfold keysT; rw [List.getElem?_map, he]; rfl
    have hnot : e.1 ∉ W.map (·.1) := by
      rw [hW]
      intro hm
      have nd := okT.ti.nd
      have e' : keysT T = (keysT T).take (i + 1) ++ (keysT T).drop (i + 1) := (List.take_append_drop _ _).symm
      rw [e', take_get hki] at nd
      exact (List.nodup_append.mp (List.nodup_append.mp nd).1).2.2 _ hm _ (by simp) rfl
    have hWl : W.length ≤ 999 := by
      have := congrArg List.length hW
      rw [List.length_map, List.length_take] at this
      omega
    refine ⟨p0, _, rfl, SqT.of ep, rfl, _, _, rfl, _, _, rfl, rfl, ?_⟩
    have put : ∀ {w : Str} {x4 : Option V}, Wr s e.1 w → w.length ≤ L * (i + 1) → (e.2.2 = none → ∃ m ∈ s.ends, m.1 = e.1 ∧ w = m.2) → Same H (upd H4 d (.dK (putK (wK W) (Sum.inl e.1) (.str w)))) ∧ GT H2 (upd H4 d (.dK (putK (wK W) (Sum.inl e.1) (.str w)))) ∧ i + 1 ≤ kvs.length ∧ upd H4 d (.dK (putK (wK W) (Sum.inl e.1) (.str w))) d1 = some (.frz o (.dK kvs)) ∧ (∃ x2 x3 x4', [some (V.ref a), some (V.ref d), some (V.int e.1), some (V.ref t0), x4] = [some (V.ref a), some (V.ref d), x2, x3, x4']) ∧ ∃ W' : List (Int × Str), upd H4 d (.dK (putK (wK W) (Sum.inl e.1) (.str w))) d = some (.dK (wK W')) ∧ W'.map (·.1) = (keysT T).take (i + 1) ∧ (∀ e ∈ W', Wr s e.1 e.2 ∧ e.2.length ≤ L * (i + 1)) ∧ (∀ e ∈ T.take (i + 1), e.2.2 = none → ∃ m ∈ s.ends, m.1 = e.1 ∧ (e.1, m.2) ∈ W') := fun {w x4} hw hwl hwe =>
      ⟨same_updN g3 hd, gt3.trans (gt_upd hd3 (fun _ z => nomatch z) (fun _ _ z => nomatch z) _), hil, (upd_ne hdd.symm).trans hf3, ⟨_, _, _, rfl⟩, W ++ [(e.1, w)], by rw [upd_same, putK_new _ (wK_none hnot)]; unfold wK; rw [List.map_append]; rfl, by rw [List.map_append, hW, take_get hki]; rfl, (fun x hx => by
        rcases List.mem_append.mp hx with hx | hx
        · exact ⟨(hWr x hx).1, Nat.le_trans (hWr x hx).2 (Nat.mul_le_mul_left _ (Nat.le_succ _))⟩
        · rw [List.mem_singleton.mp hx]; exact ⟨hw, hwl⟩), fun x hx hz => by
        rw [take_get he] at hx
        rcases List.mem_append.mp hx with hx | hx
        · obtain ⟨m, h1, h2, h3⟩ := hWe x hx hz
          exact ⟨m, h1, h2, List.mem_append_left _ h3⟩
        · have hx := List.mem_singleton.mp hx
          subst hx
          obtain ⟨m, h1, h2, h3⟩ := hwe hz
          exact ⟨m, h1, h2, List.mem_append_right _ (by rw [h3]; simp)⟩⟩
    have h1' := Same.seqT g3 h1
    rcases okT.ti.en i e he with ⟨hn, m, hm, hmr⟩ | ⟨q0, t, hq, ht, htr, j, e', hj, he', hen, _⟩
    · rw [hn] at hT3
      obtain ⟨vm, hvm, b, rfl, hb⟩ := paired_at h7 hm
      have hb' := (Same.grow g3).seqT hb
      refine ⟨_, rfl, _, _, _, _, rfl, rfl, hT3, rfl, rfl, _, rfl, iteDT rfl ?_⟩
      refine ⟨_, rfl, _, _, _, _, rfl, rfl, h1', rfl, _, rfl, _, _, _, _, rfl, rfl, hT3, rfl, _, _, _, _, rfl, rfl, g3.seq h4, atI_nat hvm, _, _, _, _, rfl, rfl, hb', rfl, _, rfl, _, rfl, d, _, rfl, .inl ⟨_, Sum.inl e.1, hd3, rfl, szl' (by rw [wK_len]; omega), rfl⟩, ?_⟩
      exact put (hmr ▸ Wr.fin (List.mem_of_getElem? hm)) (by have := wl.we m (List.mem_of_getElem? hm); rw [Nat.mul_succ]; omega) (fun _ => ⟨m, List.mem_of_getElem? hm, hmr, rfl⟩)
    · rw [hq] at hT3
      obtain ⟨vt, hvt, b, rfl, hb⟩ := paired_at h6 ht
      have hb' := (Same.grow g3).seqT hb
      have htm := List.mem_of_getElem? ht
      have hgoal : t.2.2.2 ∈ W.map (·.1) := by
        rw [hW]
        have e1 : e'.1 = t.2.2.2 := hen
        rw [← e1]
        have hkj : (keysT T)[j]? = some e'.1 := by unfold keysT; rw [List.getElem?_map, he']; rfl
        exact List.mem_of_getElem? (i := j) (by rw [List.getElem?_take]; rw [if_pos hj]; exact hkj)
      obtain ⟨w, hwm, hwv⟩ := wK_some hgoal
      obtain ⟨hww, hwl⟩ := hWr _ hwm
      have htl := wl.ws t htm
      refine ⟨_, rfl, _, _, _, _, rfl, rfl, hT3, rfl, rfl, _, rfl, iteD (fun z => nomatch z) ?_⟩
      refine ⟨_, rfl, _, _, _, _, rfl, rfl, h1', rfl, _, rfl, _, _, _, _, rfl, rfl, hT3, rfl, _, _, _, _, rfl, rfl, g3.seq h3, atI_nat hvt, ?_⟩
      refine ⟨_, rfl, _, _, _, _, rfl, rfl, hb', rfl, _, rfl, _, rfl, _, _, _, _, rfl, rfl, hb', rfl, d, _, rfl, hwv ▸ DGet.k (k := Sum.inl t.2.2.2) hd3, _, _, rfl, rfl, szl (by have h9 : w.length ≤ L * i := hwl; have h10 := hbig i (by omega); omega), ?_⟩
      refine ⟨_, rfl, _, rfl, d, _, rfl, .inl ⟨_, Sum.inl e.1, hd3, rfl, szl' (by rw [wK_len]; omega), rfl⟩, ?_⟩
      have htr : t.1 = e.1 := htr
      exact put (htr ▸ Wr.step htm hww) (by rw [len_app, Nat.mul_succ]; have h9 : w.length ≤ L * i := hwl; omega) (fun z => by rw [hq] at z; cases z)
  rintro σ H3 ⟨g3, _, _, _, ⟨x2, x3, x4, rfl⟩, W, hd3, hW, hWr, hWe⟩
  rw [← hlen, List.take_length] at hWe
  rw [← hlen, show T.length = (keysT T).length by unfold keysT; rw [List.length_map], List.take_length] at hW
  refine ⟨_, rfl, q d W H3 g3 hd hd3 (hW ▸ okT.ti.nd) (fun r => by rw [hW]; exact okT.rch r) (fun e he => ⟨(hWr e he).1, Nat.le_trans (hWr e he).2 (hbig _ (Nat.le_refl _))⟩) fun nd m hm => ?_⟩
  obtain ⟨e, he, h1, h2⟩ := okT.first m hm
  obtain ⟨m', h3, h4, h5⟩ := hWe e he h2
  have h6 := nodup_inj nd h3 hm (by rw [h4, h1])
  rw [h6, h1] at h5
  exact h5
theorem sc_steps_by_goal : FnScope ["scribe", "found", "step"] ["scribe"] (defScope s_steps_by_goal) := ⟨rfl, rfl, rfl, by decide +kernel, rfl, by decide +kernel, by decide +kernel⟩
theorem ok_steps_by_goal (B : Bi mg) {c_NotPlain : Addr} (XB : Xb K mg c_NotPlain)  {f : Addr} {fd : FuncData} (F : Fun K "steps_by_goal" "steps_by_goal" s_steps_by_goal f fd) : FnOk P w K mg base CX0 1 f fd ["scribe"] (spGoal K) := by
  refine F.ok sc_steps_by_goal (fun vs H Q E h => ?_) (fun cdv A outer s H vs Q E hr h => ?_)
  · obtain ⟨v, s, pb, ps, pe, rfl, _⟩ := h; rfl
  obtain ⟨v, s, pb, ps, pe, rfl, hV, hs, q⟩ := h
  refine ⟨_, (pss_cons (ps_set (i := 1) sc_steps_by_goal.nd rfl (Or.inl rfl) pe_dnewK)
      (pss_cons (ps_for PassesOwn.never (by rfl) (kPI (K := K) (fun k => iList k _) (pi_list (pe_ix (kIx (K := K) rIxT ix_tup) (pv 0) (pe_globI (by rfl) B.STEPS) (by intro _ _; rfl)))) (pg_name (i := 2) sc_steps_by_goal.nd rfl (Or.inl rfl)) (pss_one (ps_expr (kPE (K := K) (fun k => tBM k _ _ _ _) (pe_bm PySem.F.plainAttrs_list PySem.F.slot_list_append PySem.F.type_list_append mt_append (kPE (K := K) (fun k => tBM k _ _ _ _) (pe_bm PySem.F.plainAttrs_dict PySem.F.slot_dict_setdefault PySem.F.type_dict_setdefault (mt_setdefault hr) (pv 1) (pa_cons (pe_ix (kIx (K := K) rIxT ix_tup) (pv 2) pe_int (by intro _ _; rfl)) (pa_cons (pe_lst pa_nil) pa_nil)))) (pa_cons (pv 2) pa_nil))))))
      (pss_one (ps_ret (pv 1))))), ?_⟩
  obtain ⟨a, xb, xs, xe, rfl, h1, h2, h3, h4, h5, h6, h7⟩ := hV
  rw [h6.length] at hs
  refine fun d hd => ?_
  have g0 := same_new hd (.dK [])
  refine ⟨_, rfl, _, _, _, _, rfl, rfl, Same.seqT g0 h1, rfl, ps, rfl, ⟨xs, g0.seq h3⟩, ?_⟩
  refine for_list (xs := xs) (fun i σ H' => Same H H' ∧ i ≤ xs.length ∧ (∃ x, σ = [some (.ref a), some (.ref d), x]) ∧ ∃ kvs, H' d = some (.dK kvs) ∧ Bk (StV K) goKey H H' d (s.steps.take i) kvs)
    ⟨g0, Nat.zero_le _, ⟨_, rfl⟩, [], upd_same, Bk.nil⟩ (fun i σ H' _ z => z.1.seq h3) ?_ ?_
  · rintro i x σ H1 hx ⟨g1, hi, ⟨x2, rfl⟩, kvs, hkd, bk⟩
    obtain ⟨t, ht, b, rfl, hb⟩ := paired_get h6 hx
    have hil : i < xs.length := (List.getElem?_eq_some_iff.mp hx).1
    have hb1 := (Same.grow g1).seqT hb
    have hkl : kvs.length ≤ 999 := by have := bk.len; rw [List.length_take] at this; omega
    refine ⟨_, rfl, .inr (.inr (.inl ⟨rfl, .inl ⟨kvs, hkd⟩⟩)), ?_⟩
    refine ⟨_, rfl, _, _, _, _, rfl, rfl, hb1, rfl, szl (by simp), fun l hl => ?_⟩
    have gl := same_new hl (.lst [])
    have hk2 := gl _ _ hkd
    have bk2 := bk.mono (stv_gt K) gl
    have g2 := g1.trans gl
    have hb2 := (Same.grow gl).seqT hb1
    have el : upd H1 l (.lst []) l = some (.lst []) := upd_same
    have hl0 : H l = none := g1.free hl
    have hln : ∀ k, valV kvs k ≠ some (.ref l) := fun k hk => by
      obtain ⟨l', ys, e, _, _, h3', _⟩ := bk.there k _ hk
      injection e with e
      subst e
      rw [h3'] at hl; cases hl
    have hld : l ≠ d := (ne_of_none hkd hl).symm
    generalize upd H1 l (.lst []) = H2 at hk2 bk2 g2 hb2 el ⊢
    refine ⟨d, V.int t.2.2.2, .ref l, rfl, rfl, .inl ⟨kvs, goKey t, hk2, rfl, szl' (by omega), fun r hr2 => ?_, fun hn => ?_⟩⟩
    · obtain ⟨l2, ys, rfl, j1, j2, j3, j4, j5⟩ := bk2.there _ _ hr2
      have hyl : ys.length ≤ 999 := by
        rw [← j4.length]
        have := List.length_filter_le (fun t' => decide (goKey t' = goKey t)) (s.steps.take i)
        rw [List.length_take] at this; omega
      refine ⟨.inl ⟨rfl, _, SqL.of j3⟩, _, rfl, l2, ys, _, rfl, rfl, j3, szl' (by omega), ?_⟩
      refine ⟨same_updN g2 j1, hil, ⟨_, rfl⟩, kvs, by rw [upd_ne j2.symm]; exact hk2, ?_⟩
      rw [take_get ht]
      exact bk2.put (stv_gt K) hr2 j3 ⟨b, rfl, hb2⟩
    · have e3 : upd H2 d (.dK (putK kvs (goKey t) (.ref l))) l = some (.lst []) := by rw [upd_ne hld]; exact el
      refine ⟨.inl ⟨rfl, _, SqL.of e3⟩, _, rfl, l, [], _, rfl, rfl, e3, szl' (by simp), ?_⟩
      refine ⟨same_updN (same_updN g2 hd) hl0, hil, ⟨_, rfl⟩, putK kvs (goKey t) (.ref l), by rw [upd_ne hld.symm]; exact upd_same, ?_⟩
      rw [take_get ht]
      exact bk2.new (stv_gt K) hn hl0 hld hk2 (fun _ z => nomatch z) (fun _ _ z => nomatch z) hln el ⟨b, rfl, hb2⟩
  rintro σ H1 ⟨g1, _, ⟨x2, rfl⟩, kvs, hkd, bk⟩
  rw [← h6.length, List.take_length] at bk
  exact ⟨_, rfl, q _ _ g1 ⟨d, kvs, rfl, hd, hkd, bk⟩⟩
theorem sc_shorten_by : FnScope ["heads", "rooms", "steps", "shortened", "room", "step", "start", "shared"] ["heads", "rooms", "steps"] (defScope s_shorten_by) := ⟨rfl, rfl, rfl, by decide +kernel, rfl, by decide +kernel, by decide +kernel⟩
theorem ok_shorten_by (B : Bi mg) {c_NotPlain : Addr} (XB : Xb K mg c_NotPlain) (C_shared_length : Cal P w K mg base "shared_length" ["one", "other"] 1 (spSharedL)) {f : Addr} {fd : FuncData} (F : Fun K "shorten_by" "shorten_by" s_shorten_by f fd) : FnOk P w K mg base CX0 2 f fd ["heads", "rooms", "steps"] (spShort K) := by
  refine F.ok sc_shorten_by (fun vs H Q E h => ?_) (fun cdv A outer s H vs Q E hr h => ?_)
  · obtain ⟨dh, W, lr, rs, dg, kvg, A, S, rfl, _⟩ := h; rfl
  obtain ⟨dh, W, lr, rs, dg, kvg, A0, S, rfl, hdh, nd, kb, hlr, hrs, hdg, hne, bk, clo, lw, lt, q⟩ := h
  refine ⟨_, (pss_cons (ps_set (i := 3) sc_shorten_by.nd rfl (Or.inl rfl) pe_dnewK)
      (pss_cons (ps_for PassesOwn.never (by rfl) (kPI (K := K) (fun k => iList k _) (pi_list (pv 1))) (pg_name (i := 4) sc_shorten_by.nd rfl (Or.inl rfl)) (pss_one (ps_for PassesOwn.never (by rfl) (kPI (K := K) (fun k => iList k _) (pi_list (kPE (K := K) (fun k => tBM k _ _ _ _) (pe_bm PySem.F.plainAttrs_dict PySem.F.slot_dict_get PySem.F.type_dict_get (mt_get2 hr) (pv 2) (pa_cons (pv 4) (pa_cons (pe_lst pa_nil) pa_nil)))))) (pg_name (i := 5) sc_shorten_by.nd rfl (Or.inl rfl)) (pss_cons (ps_set (i := 6) sc_shorten_by.nd rfl (Or.inl rfl) (pe_ix (kIx (K := K) rIxT ix_tup) (pv 5) pe_int (by intro _ _; rfl)))
      (pss_cons (ps_set (i := 7) sc_shorten_by.nd rfl (Or.inl rfl) (pe_fn C_shared_length hr (by decide : 1 ≤ 1) (by rfl) (pa_cons (pe_dget (hu_of hr) (pv 0) (pv 6) (by intro _ _; rfl)) (pa_cons (pe_op op_add_str (pe_ix (kIx (K := K) rIxT ix_tup) (pv 5) pe_int (by intro _ _; rfl)) (pe_dget (hu_of hr) (pv 0) (pv 4) (by intro _ _; rfl))) pa_nil))))
      (pss_one (ps_if (pt_cmpR op_lt (pv 7) (pe_callB call_len_str (by rfl) B.len bt_len (pa_cons (pe_dget (hu_of hr) (pv 0) (pv 6) (by intro _ _; rfl)) pa_nil)) (nomark _)) (pss_cons (ps_dput (hu_of hr) (pv 0) (pv 6) (pe_slice sl_str (pe_dget (hu_of hr) (pv 0) (pv 6) (by intro _ _; rfl)) po_none (po_some (pv 7))) rfl)
      (pss_one (ps_dput (hu_of hr) (pv 3) (pv 6) pe_bl rfl))) pss_nil)))))))
      (pss_one (ps_ret (pe_callTy (call_list_d (by rfl)) (by rfl) B.list bt_list (pa_cons (pv 3) pa_nil)))))), ?_⟩
  refine fun d2 hd2 => ?_
  have g0 := same_new hd2 (.dK [])
  have e0 := upd_same (H := H) (a := d2) (o := .dK [])
  have hdh0 := g0 _ _ hdh
  have hdg0 := g0 _ _ hdg
  have hlr0 := g0.seq hlr
  have bk0 := bk.mono (stv_gt K) g0
  have n2h : d2 ≠ dh := (ne_of_none hdh hd2).symm
  have n2g : d2 ≠ dg := (ne_of_none hdg hd2).symm
  generalize upd H d2 (.dK []) = H0 at g0 e0 hdh0 hdg0 hlr0 bk0 ⊢
  have xh : ∃ kd, H0 dh = some (.dK kd) := ⟨_, hdh0⟩
  have x2 : ∃ kd, H0 d2 = some (.dK kd) := ⟨_, e0⟩
  refine ⟨_, rfl, lr, rfl, ⟨_, hlr0⟩, ?_⟩
  refine for_list (xs := rs.map V.int) (fun i σ H' => ∃ (W1 : List (Int × Str)) (kv2 : List (Key × V)) (out : List Int) (x4 x5 x6 x7 : Option V), σ = [some (.ref dh), some (.ref lr), some (.ref dg), some (.ref d2), x4, x5, x6, x7] ∧ KBB dh d2 H0 H' ∧ H' dh = some (.dK (wK W1)) ∧ H' d2 = some (.dK kv2) ∧ kv2.map (fun e : Key × V => e.1) = out.map Sum.inl ∧ out.Nodup ∧ Sh S W W1 ∧ (∀ r ∈ out, r ∈ W.map (fun e : Int × Str => e.1)) ∧ sumL W1 ≤ sumL W ∧ (out ≠ [] → sumL W1 < sumL W) ∧ (∀ t ∈ S, (Sat W t ∨ t.2.2.2 ∈ rs) → Sat W1 t ∨ t.2.2.2 ∈ out ∨ t.2.2.2 ∈ rs.drop i))
    ⟨W, [], [], _, _, _, _, rfl, fun b o _ _ z => z, hdh0, e0, rfl, by simp, Sh.refl S W, (fun r hr => nomatch hr), Nat.le_refl _, fun z => absurd rfl z, fun t ht z => z.elim .inl fun w => .inr (.inr w)⟩ (fun i σ H' _ z => by obtain ⟨_, _, _, _, _, _, _, _, z, _⟩ := z; exact kbb_sq xh x2 z hlr0) ?_ ?_
  · rintro i x σ H1 hx ⟨W1, kv2, out, x4, x5, x6, x7, rfl, kk, eh, e2, ek, no, sh, so, sl, ss, sat⟩
    rw [List.getElem?_map] at hx
    cases hri : rs[i]? with
    | none => rw [hri] at hx; cases hx
    | some r =>
    rw [hri] at hx
    injection hx with hx
    subst hx
    have hrk := hrs r (List.mem_of_getElem? hri)
    have edg := kk _ _ hne n2g.symm hdg0
    refine ⟨_, rfl, .inr (.inr (.inl ⟨rfl, .inl ⟨kvg, edg⟩⟩)), _, rfl, szl (by simp), fun l1 hl1 => ?_⟩
    have gl1 := same_new hl1 (.lst [])
    have el1 := upd_same (H := H1) (a := l1) (o := .lst [])
    have eh := gl1 _ _ eh
    have e2 := gl1 _ _ e2
    have edg := gl1 _ _ edg
    have kk : KBB dh d2 H0 (upd H1 l1 (.lst [])) := fun b o z1 z2 z3 => gl1 _ _ (kk b o z1 z2 z3)
    generalize upd H1 l1 (.lst []) = H2 at gl1 el1 eh e2 edg kk ⊢
    obtain ⟨la, ys, hv, hla, hpy⟩ : ∃ la ys, (valV kvg (Sum.inl r)).getD (.ref l1) = .ref la ∧ H2 la = some (.lst ys) ∧ Paired (StV K H2) (S.filter fun t => decide (goKey t = Sum.inl r)) ys := by
      cases hv : valV kvg (Sum.inl r) with
      | none => exact ⟨l1, [], rfl, el1, by rw [bk0.nokey _ hv]; exact .nil⟩
      | some v =>
        obtain ⟨l, ys, rfl, _, h2, h3⟩ := kbb_bk bk0 xh x2 kk _ _ hv
        exact ⟨l, ys, rfl, h2, paired_mono (fun _ _ => StV.gt (kbb_gt xh x2 kk)) h3⟩
    refine ⟨dg, .int r, .ref l1, _, rfl, rfl, DGet.k (k := Sum.inl r) edg, ?_⟩
    rw [hv]
    have nah : la ≠ dh := fun z => by rw [z, eh] at hla; cases hla
    have na2 : la ≠ d2 := fun z => by rw [z, e2] at hla; cases hla
    refine ⟨la, rfl, ⟨ys, SqL.of hla⟩, ?_⟩
    obtain ⟨TS, hTS⟩ : ∃ TS, TS = S.filter fun t => decide (goKey t = Sum.inl r) := ⟨_, rfl⟩
    rw [← hTS] at hpy
    have memTS : ∀ t, t ∈ TS ↔ t ∈ S ∧ t.2.2.2 = r := fun t => by
      rw [hTS, List.mem_filter, decide_eq_true_eq]
      exact and_congr_right fun _ => ⟨fun z => by injection z, fun z => by unfold goKey; rw [z]⟩
    refine for_list (xs := ys) (fun j σ H' => ∃ (W1 : List (Int × Str)) (kv2 : List (Key × V)) (out : List Int) (x5 x6 x7 : Option V), σ = [some (.ref dh), some (.ref lr), some (.ref dg), some (.ref d2), some (.int r), x5, x6, x7] ∧ KBB dh d2 H0 H' ∧ GT H2 H' ∧ H' la = some (.lst ys) ∧ H' dh = some (.dK (wK W1)) ∧ H' d2 = some (.dK kv2) ∧ kv2.map (fun e : Key × V => e.1) = out.map Sum.inl ∧ out.Nodup ∧ Sh S W W1 ∧ (∀ r ∈ out, r ∈ W.map (fun e : Int × Str => e.1)) ∧ sumL W1 ≤ sumL W ∧ (out ≠ [] → sumL W1 < sumL W) ∧ (∀ t ∈ S, (Sat W t ∨ t.2.2.2 ∈ rs) → Sat W1 t ∨ t.2.2.2 ∈ out ∨ t.2.2.2 ∈ rs.drop (i + 1) ∨ t ∈ TS.drop j))
      ⟨W1, kv2, out, _, _, _, rfl, kk, GT.of (Same.refl _), hla, eh, e2, ek, no, sh, so, sl, ss, fun t ht z => ?_⟩ (fun j σ H' _ z => by obtain ⟨_, _, _, _, _, _, _, _, _, z, _⟩ := z; exact SqL.of z) ?_ ?_
    · rcases sat t ht z with z | z | z
      · exact .inl z
      · exact .inr (.inl z)
      · have e : rs.drop i = r :: rs.drop (i + 1) := by
          obtain ⟨h1, h2⟩ := List.getElem?_eq_some_iff.mp hri
          rw [List.drop_eq_getElem_cons h1, h2]
        rw [e] at z
        rcases List.mem_cons.mp z with z | z
        · exact .inr (.inr (.inr (by rw [List.drop_zero]; exact (memTS t).mpr ⟨ht, z⟩)))
        · exact .inr (.inr (.inl z))
    · clear eh e2 ek no sh so sl ss sat kk
      rintro j yv σ H3 hy ⟨W1, kv2, out, x5, x6, x7, rfl, kk, gt, hla3, eh, e2, ek, no, sh, so, sl, ss, sat⟩
      obtain ⟨t, ht, b, rfl, hb⟩ := paired_get hpy hy
      have hb3 := gt.seqT hb
      obtain ⟨htS, htr⟩ := (memTS t).mp (List.mem_of_getElem? ht)
      have hk2 : t.2.2.2 ∈ W.map (·.1) := by rw [htr]; exact hrk
      have hk1 := clo t htS hk2
      obtain ⟨a, ha⟩ := look_mem (W := W1) (r := t.1) (by rw [sh.keys]; exact hk1)
      obtain ⟨bw, hbw⟩ := look_mem (W := W1) (r := t.2.2.2) (by rw [sh.keys]; exact hk2)
      have short : ∀ {r x}, r ∈ W.map (·.1) → lookW W1 r = some x → x.length ≤ 90000 := fun {r x} hr hx => by
        obtain ⟨x0, h0⟩ := look_mem hr
        have h1 := (sh.le _ _ _ h0 hx).length_le
        rw [cl_length, cl_length] at h1
        have := lw _ _ h0
        omega
      have la' := short hk1 ha
      have lb' := short hk2 hbw
      have lt' := lt t htS
      have hv1 : valV (wK W1) (Sum.inl t.1) = some (.str a) := by rw [val_wK, ha]; rfl
      have hvr : valV (wK W1) (Sum.inl r) = some (.str bw) := by rw [← htr, val_wK, hbw]; rfl
      have D1 : DGet H3 dh (.int t.1) (some (.str a)) := hv1 ▸ DGet.k (k := Sum.inl t.1) eh
      have Dr : DGet H3 dh (.int r) (some (.str bw)) := hvr ▸ DGet.k (k := Sum.inl r) eh
      have lab : (t.2.2.1 ++ bw).length ≤ 99000 := by rw [len_app]; omega
      have hWl : (wK W1).length ≤ 999 := by
        rw [wK_len]
        have h1 := len_bnd 999 (W.map (·.1)) nd fun x hx => kb x hx
        rw [← sh.keys, List.length_map] at h1; exact h1
      have hol : kv2.length ≤ 999 := by
        have h1 := len_bnd 999 out no fun x hx => kb x (so x hx)
        have h2 := congrArg List.length ek
        rw [List.length_map, List.length_map] at h2; omega
      have hLL := L_le a (t.2.2.1 ++ bw)
      refine ⟨_, rfl, _, _, _, _, rfl, rfl, hb3, rfl, ?_⟩
      refine ⟨_, rfl, _, rfl, dh, _, rfl, D1, _, rfl, _, _, _, _, rfl, rfl, hb3, rfl, _, rfl, _, rfl, dh, _, rfl, Dr, _, _, rfl, rfl, szl (by omega), a, t.2.2.1 ++ bw, rfl, by omega, by omega, ?_⟩
      refine ⟨_, rfl, _, rfl, _, rfl, dh, _, rfl, D1, a, rfl, szl (by omega), _, _, rfl, rfl, _, rfl, iteDd (fun c => ?_) (fun c => ?_)⟩
      rotate_left
      · refine ⟨W1, kv2, out, _, _, _, rfl, kk, gt, hla3, eh, e2, ek, no, sh, so, sl, ss, fun t' ht' z => ?_⟩
        rcases sat t' ht' z with z | z | z | z
        · exact .inl z
        · exact .inr (.inl z)
        · exact .inr (.inr (.inl z))
        · have e : TS.drop j = t :: TS.drop (j + 1) := by
            obtain ⟨h1, h2⟩ := List.getElem?_eq_some_iff.mp ht
            rw [List.drop_eq_getElem_cons h1, h2]
          rw [e] at z
          rcases List.mem_cons.mp z with z | z
          · subst z
            refine .inl fun x y hx hy => ?_
            rw [ha] at hx; cases hx
            rw [hbw] at hy; cases hy
            have h1 := lcp_pre (cl a) (cl (t'.2.2.1 ++ bw))
            have h2 : lcp (cl a) (cl (t'.2.2.1 ++ bw)) = (cl a).length := by
              rw [cl_length]
              have c : ¬ L a (t'.2.2.1 ++ bw) < (a.length : Int) := c
              unfold L at c hLL
              omega
            rw [h2, List.take_length] at h1
            exact h1
          · exact .inr (.inr (.inr z))
      have c : L a (t.2.2.1 ++ bw) < (a.length : Int) := c
      obtain ⟨w, ew⟩ : ∃ w, w = Txt.slice a none (some (L a (t.2.2.1 ++ bw))) := ⟨_, rfl⟩
      have hw : cl w = (cl a).take (lcp (cl a) (cl (t.2.2.1 ++ bw))) := by rw [ew, cut_to hLL.1 hLL.2.1]; rfl
      have hwl : w.length < a.length := by
        rw [← cl_length w, hw, List.length_take, cl_length]
        unfold L at c
        omega
      have hwa : cl w <+: cl a := by rw [hw]; exact List.take_prefix _ _
      refine ⟨_, rfl, _, rfl, dh, _, rfl, D1, _, rfl, _, rfl, a, rfl, szl (by omega), _, rfl, _, rfl, dh, _, rfl, .inl ⟨_, Sum.inl t.1, eh, rfl, szl' (by omega), rfl⟩, ?_⟩
      rw [← ew, put_wK ha]
      have gtd : GT H3 (upd H3 dh (.dK (wK (setW W1 t.1 w)))) := gt_upd eh (fun _ z => nomatch z) (fun _ _ z => nomatch z) _
      have e2' : upd H3 dh (.dK (wK (setW W1 t.1 w))) d2 = some (.dK kv2) := (upd_ne n2h).trans e2
      have eh' : upd H3 dh (.dK (wK (setW W1 t.1 w))) dh = some (.dK (wK (setW W1 t.1 w))) := upd_same
      have hla' : upd H3 dh (.dK (wK (setW W1 t.1 w))) la = some (.lst ys) := (upd_ne nah).trans hla3
      have kk' : KBB dh d2 H0 (upd H3 dh (.dK (wK (setW W1 t.1 w)))) := fun b o z1 z2 z3 => (upd_ne z1).trans (kk b o z1 z2 z3)
      have gt' := gt.trans gtd
      generalize upd H3 dh (.dK (wK (setW W1 t.1 w))) = H4 at e2' eh' hla' kk' gt' ⊢
      refine ⟨_, rfl, _, rfl, d2, _, rfl, .inl ⟨kv2, Sum.inl t.1, e2', rfl, szl' (by omega), rfl⟩, ?_⟩
      have sh' := sh.sat_step htS hk1 hk2 ha hbw hw
      have sl' := sum_set hwl (by rw [sh.keys]; exact nd) ha
      obtain ⟨out', ho1, ho2, ho3, ho4⟩ : ∃ out' : List Int, (putK kv2 (Sum.inl t.1) (.bl true)).map (fun e : Key × V => e.1) = out'.map Sum.inl ∧ out'.Nodup ∧ (∀ x, x ∈ out' ↔ x ∈ out ∨ x = t.1) ∧ True := by
        by_cases z : t.1 ∈ out
        · refine ⟨out, ?_, no, fun x => ⟨.inl, fun y => y.elim id fun y => y ▸ z⟩, trivial⟩
          rw [put_keys, ek]
          unfold addM
          rw [if_pos (List.mem_map.mpr ⟨_, z, rfl⟩)]
        · refine ⟨out ++ [t.1], ?_, nodup_snoc no z, fun x => by rw [List.mem_append, List.mem_singleton], trivial⟩
          rw [put_keys, ek]
          unfold addM
          rw [if_neg (fun y => by obtain ⟨y, hy, e⟩ := List.mem_map.mp y; injection e with e; exact z (e ▸ hy)), List.map_append]; rfl
      refine ⟨setW W1 t.1 w, _, out', _, _, _, rfl, fun b o z1 z2 z3 => (upd_ne z2).trans (kk' b o z1 z2 z3), gt'.trans (gt_upd e2' (fun _ z => nomatch z) (fun _ _ z => nomatch z) _), (upd_ne na2).trans hla', (upd_ne n2h.symm).trans eh', upd_same, ho1, ho2, sh', fun x hx => ?_, by omega, fun _ => by omega, fun t' ht' z => ?_⟩
      · rcases (ho3 x).mp hx with z | z
        · exact so x z
        · rw [z]; exact hk1
      by_cases hg : t'.2.2.2 = t.1
      · exact .inr (.inl ((ho3 _).mpr (.inr hg)))
      rcases sat t' ht' z with z | z | z | z
      · exact .inl (sat_set ha hwa z hg)
      · exact .inr (.inl ((ho3 _).mpr (.inl z)))
      · exact .inr (.inr (.inl z))
      · have e : TS.drop j = t :: TS.drop (j + 1) := by
          obtain ⟨h1, h2⟩ := List.getElem?_eq_some_iff.mp ht
          rw [List.drop_eq_getElem_cons h1, h2]
        rw [e] at z
        rcases List.mem_cons.mp z with z | z
        · subst z
          refine .inl fun x y hx hy => ?_
          rw [look_set, ha] at hx
          injection hx with hx
          replace hx : (if t'.1 = t'.1 then w else a) = x := hx
          rw [if_pos rfl] at hx
          subst hx
          rw [look_set, hbw] at hy
          injection hy with hy
          replace hy : (if t'.2.2.2 = t'.1 then w else bw) = y := hy
          rw [if_neg hg] at hy
          subst hy
          rw [hw]
          exact lcp_pre _ _
        · exact .inr (.inr (.inr z))
    · rintro σ H3 ⟨W1, kv2, out, x5, x6, x7, rfl, kk, _, _, eh, e2, ek, no, sh, so, sl, ss, sat⟩
      refine ⟨W1, kv2, out, _, _, _, _, rfl, kk, eh, e2, ek, no, sh, so, sl, ss, fun t ht z => ?_⟩
      rw [show ys.length = TS.length from hpy.length.symm, List.drop_length] at sat
      rcases sat t ht z with z | z | z | z
      · exact .inl z
      · exact .inr (.inl z)
      · exact .inr (.inr z)
      · cases z
  rintro σ H1 ⟨W1, kv2, out, x4, x5, x6, x7, rfl, kk, eh, e2, ek, no, sh, so, sl, ss, sat⟩
  rw [List.length_map, List.drop_length] at sat
  refine ⟨_, rfl, d2, rfl, .inl ⟨kv2, e2, fun l hl => ?_⟩⟩
  have hkl : kv2.map (fun kv => kV kv.1) = out.map V.int := by
    rw [show (kv2.map fun kv => kV kv.1) = (kv2.map (·.1)).map kV by rw [List.map_map]; rfl, ek, List.map_map]; rfl
  rw [hkl]
  have hlH : H l = none := by
    cases z : H l with
    | none => rfl
    | some o =>
      by_cases z1 : l = dh
      · rw [z1, eh] at hl; cases hl
      · by_cases z2 : l = d2
        · rw [z2, e2] at hl; cases hl
        · rw [kk l o z1 z2 (g0 _ _ z)] at hl; cases hl
  refine q l W1 out _ (fun b o z1 z2 => ?_) hlH ?_ upd_same sh so sl ss fun t ht z => ?_
  · rw [upd_ne (fun z => by rw [z, hlH] at z2; cases z2)]
    exact kk b o z1 (fun z => by rw [z, hd2] at z2; cases z2) (g0 _ _ z2)
  · rw [upd_ne (fun z => by rw [z, hl] at eh; cases eh)]; exact eh
  · rcases sat t ht z with z | z | z
    · exact .inl z
    · exact .inr z
    · cases z
theorem sc_heads_by_room : FnScope ["scribe", "heads", "steps", "rooms"] ["scribe"] (defScope s_heads_by_room) := ⟨rfl, rfl, rfl, by decide +kernel, rfl, by decide +kernel, by decide +kernel⟩
theorem ok_heads_by_room (B : Bi mg) {c_NotPlain : Addr} (XB : Xb K mg c_NotPlain) (C_words_to_ends : Cal P w K mg base "words_to_ends" ["scribe"] 4 (spToEnds K)) (C_steps_by_goal : Cal P w K mg base "steps_by_goal" ["scribe"] 1 (spGoal K)) (C_shorten_by : Cal P w K mg base "shorten_by" ["heads", "rooms", "steps"] 2 (spShort K)) {f : Addr} {fd : FuncData} (F : Fun K "heads_by_room" "heads_by_room" s_heads_by_room f fd) : FnOk P w K mg base CX0 5 f fd ["scribe"] (spHeadsBy K) := by
  refine F.ok sc_heads_by_room (fun vs H Q E h => ?_) (fun cdv A outer s H vs Q E hr h => ?_)
  · obtain ⟨v, s, pb, ps, pe, L, rfl, _⟩ := h; rfl
  obtain ⟨v, s, pb, ps, pe, L, rfl, hV, ok, wl, hL, ne, q⟩ := h
  refine ⟨_, (pss_cons (ps_set (i := 1) sc_heads_by_room.nd rfl (Or.inl rfl) (pe_fn C_words_to_ends hr (by decide : 4 ≤ 4) (by rfl) (pa_cons (pv 0) pa_nil)))
      (pss_cons (ps_set (i := 2) sc_heads_by_room.nd rfl (Or.inl rfl) (pe_fn C_steps_by_goal hr (by decide : 1 ≤ 4) (by rfl) (pa_cons (pv 0) pa_nil)))
      (pss_cons (ps_set (i := 3) sc_heads_by_room.nd rfl (Or.inl rfl) (pe_callTy (call_list_d (by rfl)) (by rfl) B.list bt_list (pa_cons (pv 1) pa_nil)))
      (pss_cons (ps_while PassesOwn.never (pt_cmpR (kOp (K := K) rNeD (op_neD hr.units)) (pv 3) (pe_lst pa_nil) (nomark _)) (pss_one (ps_set (i := 3) sc_heads_by_room.nd rfl (Or.inl rfl) (pe_fn C_shorten_by hr (by decide : 2 ≤ 4) (by rfl) (pa_cons (pv 1) (pa_cons (pv 3) (pa_cons (pv 2) pa_nil)))))))
      (pss_one (ps_ret (pv 1))))))), ?_⟩
  refine ⟨_, rfl, v, s, pb, ps, pe, L, rfl, hV, ok, wl, hL, fun dh W0 H1 g1 hdh e1 nd0 ky0 wr0 en0 => ?_⟩
  refine ⟨_, rfl, v, s, pb, ps, pe, rfl, hV.mono g1, ok.ls, fun vg H2 g2 hG => ?_⟩
  obtain ⟨dg, kvg, rfl, hdg0, hdg, bk⟩ := hG
  have e2 := g2 _ _ e1
  have hne : dg ≠ dh := fun z => by rw [z, e1] at hdg0; cases hdg0
  refine ⟨_, rfl, dh, rfl, .inl ⟨_, e2, fun lr hlr => ?_⟩⟩
  have hkf : (wK W0).map (fun kv => kV kv.1) = (W0.map (·.1)).map V.int := by unfold wK; rw [List.map_map, List.map_map]; rfl
  rw [hkf]
  have glr := same_new hlr (.lst ((W0.map (·.1)).map V.int))
  have elr := upd_same (H := H2) (a := lr) (o := .lst ((W0.map (·.1)).map V.int))
  have kb0 : KB dh H2 (upd H2 lr (.lst ((W0.map (·.1)).map V.int))) := fun b o _ z => glr b o z
  have e3 := glr _ _ e2
  generalize upd H2 lr (.lst ((W0.map (·.1)).map V.int)) = H3 at glr elr kb0 e3 ⊢
  have hA : H1 dh ≠ none := by rw [e1]; exact fun z => nomatch z
  have bnd : ∀ r ∈ W0.map (·.1), 0 ≤ r ∧ r < 999 := fun r hr => by
    obtain ⟨h1, h2⟩ := rch_bnd ok.me (ok.side (.inl rfl)) ((ky0 r).mp hr)
    have := ok.lr
    omega
  have len : ∀ {W : List (Int × Str)}, Sh s.steps W0 W → ∀ r a, lookW W r = some a → a.length ≤ 90000 := fun {W} sh r a h => by
    obtain ⟨a0, h0⟩ := look_mem (W := W0) (r := r) (by rw [← sh.keys]; exact look_key h)
    have h1 := (sh.le _ _ _ h0 h).length_le
    rw [cl_length, cl_length] at h1
    have h2 : a0.length ≤ 90000 := Nat.le_trans (wr0 _ (look_in h0)).2 hL.1
    omega
  have lenL : ∀ {W : List (Int × Str)}, Sh s.steps W0 W → ∀ r a, lookW W r = some a → a.length ≤ L * s.rooms.toNat := fun {W} sh r a h => by
    obtain ⟨a0, h0⟩ := look_mem (W := W0) (r := r) (by rw [← sh.keys]; exact look_key h)
    have h1 := (sh.le _ _ _ h0 h).length_le
    rw [cl_length, cl_length] at h1
    exact Nat.le_trans h1 (wr0 _ (look_in h0)).2
  refine ⟨fun mm σ H' => ∃ (lr : Addr) (rs : List Int) (W : List (Int × Str)), mm = 2 * sumL W + min rs.length 1 ∧ σ = [some v, some (.ref dh), some (.ref dg), some (.ref lr)] ∧ KB dh H2 H' ∧ H' lr = some (.lst (rs.map V.int)) ∧ H' dh = some (.dK (wK W)) ∧ Sh s.steps W0 W ∧ (∀ r ∈ rs, r ∈ W0.map (fun e : Int × Str => e.1)) ∧ (∀ t ∈ s.steps, Sat W t ∨ t.2.2.2 ∈ rs),
    ⟨_, lr, W0.map (·.1), W0, rfl, rfl, kb0, elr, e3, Sh.refl _ _, fun r hr => hr, fun t ht => ?_⟩, ?_⟩
  · by_cases c : t.2.2.2 ∈ W0.map (·.1)
    · exact .inr c
    · exact .inl fun a b _ hb => absurd (look_key hb) c
  clear kb0 elr e3 glr hkf hlr lr H3
  rintro mm σ H3 ⟨lr, rs, W, rfl, rfl, kb, elr, eh, sh, hrs, sat⟩
  refine ⟨_, rfl, szl (by simp), fun l0 hl0 => ?_⟩
  have gl0 := same_new hl0 (.lst [])
  have el0 := upd_same (H := H3) (a := l0) (o := .lst [])
  have kb := kb.then gl0
  have elr := gl0 _ _ elr
  have eh := gl0 _ _ eh
  generalize upd H3 l0 (.lst []) = H4 at gl0 el0 kb elr eh ⊢
  refine ⟨.lst (rs.map D.int), .lst [], rep_lst (SqL.of elr) (reps_ints rs), rep_lst (SqL.of el0) .nil, by simp [deep, deep_ints], _, rfl, ?_⟩
  rw [eqD_ints]
  have gH2 : Same H H2 := g1.trans g2
  refine iteNd (fun hne0 => ?_) (fun hz => ?_)
  rotate_left
  · subst hz
    refine ⟨_, rfl, q dh W H4 (kb.same gH2 hdh) hdh eh ⟨by rw [sh.keys]; exact nd0, fun r => by rw [sh.keys]; exact ky0 r, fun m hm a ha => sh.le _ _ _ (look_of nd0 (en0 ne m hm)) ha, fun t ht => (sat t ht).resolve_right (fun z => nomatch z), fun h h0 hS r a ha => sh.low h (fun r a0 h1 => h0 r a0 (wr0 _ (look_in h1)).1) (fun t ht k1 k2 => hS t ht (by rw [sh.keys]; exact k1) (by rw [sh.keys]; exact k2)) r a ha, len sh⟩ (lenL sh)⟩
  refine ⟨_, fun σ' H' z => z, ?_⟩
  have hrl : 0 < rs.length := List.length_pos_iff.mpr hne0
  refine ⟨_, rfl, _, rfl, _, rfl, dh, W, lr, rs, dg, kvg, H1, s.steps, rfl, eh, by rw [sh.keys]; exact nd0, by rw [sh.keys]; exact bnd, SqL.of elr, by rw [sh.keys]; exact hrs, kb _ _ hne hdg, hne, bk_kbS bk hA e2 kb, ?_, len sh, fun t ht => Nat.le_trans (wl.ws t ht) hL.2, fun l W' out H' kb' hl eh' el' sh' so' sl' ss' sat' => ?_⟩
  · intro t ht hk
    rw [sh.keys] at hk ⊢
    exact (ky0 _).mpr (Rch.step (n := 3) (f := 0) ht ((ky0 _).mp hk))
  refine ⟨_, ?_, l, out, W', rfl, rfl, kb.trans kb', el', eh', sh.trans sh', fun r hr => by rw [← sh.keys]; exact so' r hr, fun t ht => sat' t ht (sat t ht)⟩
  cases out with
  | nil => simp; omega
  | cons x xs =>
    have := ss' (by simp)
    simp
    omega
theorem sc_heads_of : FnScope ["scribe", "heads"] ["scribe"] (defScope s_heads_of) := ⟨rfl, rfl, rfl, by decide +kernel, rfl, by decide +kernel, by decide +kernel⟩
theorem ok_heads_of (B : Bi mg) {c_NotPlain : Addr} (XB : Xb K mg c_NotPlain) (C_refuse_choices : Cal1 P w K mg base "refuse_choices" ["scribe"] 3 (spChoices K c_NotPlain)) (C_heads_by_room : Cal P w K mg base "heads_by_room" ["scribe"] 5 (spHeadsBy K)) {f : Addr} {fd : FuncData} (F : Fun K "heads_of" "heads_of" s_heads_of f fd) : FnOk P w K mg base (CX1 P w) 6 f fd ["scribe"] (spHeads K c_NotPlain) := by
  refine Fun.ok1 F sc_heads_of (fun vs H Q E h => ?_) (fun cdv A outer s H vs Q E hr h => ?_)
  · obtain ⟨v, s, pb, ps, pe, L, rfl, _⟩ := h; rfl
  obtain ⟨v, s, pb, ps, pe, L, rfl, hV, ok, hr0, wl, hL, q, hE⟩ := h
  refine ⟨_, (pss_cons (ps_expr (pe_fn1 C_refuse_choices hr (by decide : 3 ≤ 5) (by rfl) pass_on (pa_cons (pv 0) pa_nil)))
      (pss_cons (ps_set (i := 1) sc_heads_of.nd rfl (Or.inr rfl) (pe_fn C_heads_by_room hr (by decide : 5 ≤ 5) (by rfl) (pa_cons (pv 0) pa_nil)))
      (pss_one (ps_ret (pe_comp rfl (blk_mk (N' := ["room", "heads"]) (js := [none, some 1]) rfl (by decide +kernel) rfl (by decide +kernel) rfl rfl) (pi_range1 (by rfl) B.range (pa_cons (pe_ix (kIx (K := K) rIxT ix_tup) (pv 0) (pe_globI (by rfl) B.ROOMS) (by intro _ _; rfl)) pa_nil)) (fun _ _ _ _ _ => (pg_name (i := 0) (show List.Nodup (["room", "heads"] : List Str) by decide +kernel) rfl (Or.inl rfl))) (fun _ _ _ _ _ => pf_nil) (fun _ _ _ _ _ => (pe_dget1 (hu_of hr) (pv 1) (pv 0) ⟨rfl, rfl, rfl, rfl⟩))))))), ?_⟩
  have hV0 := hV
  obtain ⟨a, xb, xs, xe, rfl, h1, h2, h3, h4, h5, h6, h7⟩ := hV
  refine ⟨_, rfl, _, s, pb, ps, pe, rfl, hV0, ok.ls, ok.le, fun hpl H1 g1 => ?_, fun hpl H1 g1 => hE hpl _ g1⟩
  refine ⟨_, rfl, _, s, pb, ps, pe, L, rfl, hV0.mono g1, ok, wl, hL, plain_ends hpl, fun d W H2 g2 hd e2 hd2 hll => ?_⟩
  have g12 := g1.trans g2
  have hlr := ok.lr
  refine ⟨_, rfl, _, _, _, _, rfl, rfl, Same.seqT g12 h1, rfl, _, rfl, by omega, by omega, ?_⟩
  refine comp_range (fun i ys τ H' => H2 = H' ∧ (∃ x, τ = [x, some (.ref d)]) ∧ i ≤ 999 ∧ ys = headL s W i) ⟨rfl, ⟨_, rfl⟩, Nat.zero_le _, rfl⟩ ?_ ?_
  · rintro i ys τ _ hi ⟨rfl, ⟨x, rfl⟩, h9, rfl⟩
    have hi9 : i < 999 := by omega
    have e : (valV (wK W) (Sum.inl (0 + (i : Int)))).getD .non = optV (lookW W (i : Int)) := by
      rw [val_wK, Int.zero_add]
      cases lookW W (i : Int) <;> rfl
    refine ⟨_, rfl, d, rfl, .inl ⟨_, .inl e2⟩, _, rfl, _, DGet.k (k := Sum.inl (0 + (i : Int))) e2, szl' (by unfold headL; rw [List.length_map, List.length_range]; omega), rfl, ⟨_, rfl⟩, by omega, ?_⟩
    rw [e]
    unfold headL
    rw [List.range_succ, List.map_append]
    rfl
  rintro ys τ _ ⟨rfl, _, _, rfl⟩ l hl
  exact q hpl l W _ (g12.trans (same_new hl _)) (g12.free hl) hd2 hll upd_same
theorem sc_earlier_step : FnScope ["step", "heads", "word"] ["step", "heads"] (defScope s_earlier_step) := ⟨rfl, rfl, rfl, by decide +kernel, rfl, by decide +kernel, by decide +kernel⟩
theorem ok_earlier_step (B : Bi mg) {c_NotPlain : Addr} (XB : Xb K mg c_NotPlain)  {f : Addr} {fd : FuncData} (F : Fun K "earlier_step" "earlier_step" s_earlier_step f fd) : FnOk P w K mg base CX0 1 f fd ["step", "heads"] (spEStep K) := by
  refine F.ok sc_earlier_step (fun vs H Q E h => ?_) (fun cdv A outer s H vs Q E hr h => ?_)
  · obtain ⟨v, u, l, t, W, n, rfl, _⟩ := h; rfl
  obtain ⟨v, u, l, t, W, n, rfl, hu, el, b1, b2, b3, b4, ⟨a1, e1⟩, ⟨a2, e2⟩, hl, hh, q⟩ := h
  refine ⟨_, (pss_cons (ps_set (i := 2) sc_earlier_step.nd rfl (Or.inl rfl) (pe_op op_add_str (pe_ix (kIx (K := K) rIxT ix_tup) (pv 0) pe_int (by intro _ _; rfl)) (pe_ix (kIx (K := K) rIxL ix_list) (pv 1) (pe_ix (kIx (K := K) rIxT ix_tup) (pv 0) pe_int (by intro _ _; rfl)) (by intro _ _; rfl))))
      (pss_one (ps_ret (pe_tup (pa_cons (pe_ix (kIx (K := K) rIxT ix_tup) (pv 0) pe_int (by intro _ _; rfl)) (pa_cons (pe_ix (kIx (K := K) rIxT ix_tup) (pv 0) pe_int (by intro _ _; rfl)) (pa_cons (pe_slice sl_str (pv 2) (po_some (pe_callB call_len_str (by rfl) B.len bt_len (pa_cons (pe_ix (kIx (K := K) rIxL ix_list) (pv 1) (pe_ix (kIx (K := K) rIxT ix_tup) (pv 0) pe_int (by intro _ _; rfl)) (by intro _ _; rfl)) pa_nil))) po_none) (pa_cons (pe_ix (kIx (K := K) rIxT ix_tup) (pv 0) pe_int (by intro _ _; rfl)) pa_nil)))))))), ?_⟩
  obtain ⟨b, rfl, hb⟩ := hu
  have c1 := hh u.1
  have c2 := hh u.2.2.2
  have at1 := hd_at (s := t) b1 b2 e1
  have at2 := hd_at (s := t) b3 b4 e2
  refine ⟨_, rfl, _, _, _, _, rfl, rfl, hb, rfl, _, rfl, _, rfl, _, _, _, _, rfl, rfl, hb, rfl, _, _, _, _, rfl, rfl, SqL.of el, at2, _, _, rfl, rfl, szl (by omega), ?_⟩
  refine ⟨_, rfl, _, _, _, _, rfl, rfl, hb, rfl, _, rfl, _, _, _, _, rfl, rfl, hb, rfl, _, rfl, _, rfl, _, rfl, _, _, _, _, rfl, rfl, hb, rfl, _, _, _, _, rfl, rfl, SqL.of el, at1, _, rfl, szl (by omega), _, rfl, _, rfl, szl (by rw [len_app]; omega), _, rfl, _, _, _, _, rfl, rfl, hb, rfl, (by show 4 ≤ sizeLine; decide), fun p hp => ?_⟩
  exact q _ _ (same_new hp _) ⟨p, rfl, SqT.of upd_same⟩
theorem sc_earliest_of : FnScope ["scribe", "trimmed", "heads", "begins", "steps", "ends"] ["scribe"] (defScope s_earliest_of) := ⟨rfl, rfl, rfl, by decide +kernel, rfl, by decide +kernel, by decide +kernel⟩
theorem ok_earliest_of (B : Bi mg) {c_NotPlain : Addr} (XB : Xb K mg c_NotPlain) (C_refuse_choices : Cal1 P w K mg base "refuse_choices" ["scribe"] 3 (spChoices K c_NotPlain)) (C_trimmed_of : Cal P w K mg base "trimmed_of" ["scribe"] 5 (spTrim K)) (C_heads_of : Cal1 P w K mg base "heads_of" ["scribe"] 6 (spHeads K c_NotPlain)) (C_earlier_step : Cal P w K mg base "earlier_step" ["step", "heads"] 1 (spEStep K)) {f : Addr} {fd : FuncData} (F : Fun K "earliest_of" "earliest_of" s_earliest_of f fd) : FnOk P w K mg base (CX1 P w) 7 f fd ["scribe"] (spEarliest K c_NotPlain) := by
  refine Fun.ok1 F sc_earliest_of (fun vs H Q E h => ?_) (fun cdv A outer s H vs Q E hr h => ?_)
  · obtain ⟨v, s, pb, ps, pe, L, rfl, _⟩ := h; rfl
  obtain ⟨v, s, pb, ps, pe, L, rfl, hV, ok, hr0, hr64, wl, hL, q, hE⟩ := h
  refine ⟨_, (pss_cons (ps_expr (pe_fn1 C_refuse_choices hr (by decide : 3 ≤ 6) (by rfl) pass_on (pa_cons (pv 0) pa_nil)))
      (pss_cons (ps_set (i := 1) sc_earliest_of.nd rfl (Or.inl rfl) (pe_fn C_trimmed_of hr (by decide : 5 ≤ 6) (by rfl) (pa_cons (pv 0) pa_nil)))
      (pss_cons (ps_set (i := 2) sc_earliest_of.nd rfl (Or.inr rfl) (pe_fn1 C_heads_of hr (by decide : 6 ≤ 6) (by rfl) pass_on (pa_cons (pv 1) pa_nil)))
      (pss_cons (ps_compset (i := 3) sc_earliest_of.nd rfl (Or.inl rfl) (by rfl) (by rfl) (blk_mk (N' := ["room", "word", "heads"]) (js := [none, none, some 2]) rfl (by decide +kernel) rfl (by decide +kernel) rfl rfl) (kPI (K := K) (fun k => iList k _) (pi_list (pe_ix (kIx (K := K) rIxT ix_tup) (pv 1) (pe_globI (by rfl) B.BEGINS) (by intro _ _; rfl)))) (fun _ _ _ _ _ => (kPG (K := K) (fun k => gTup k 2 _) (pg_tup (n := 2) (by rfl) (pgs_cons (pg_name (i := 0) (show List.Nodup (["room", "word", "heads"] : List Str) by decide +kernel) rfl (Or.inl rfl)) (pgs_cons (pg_name (i := 1) (show List.Nodup (["room", "word", "heads"] : List Str) by decide +kernel) rfl (Or.inl rfl)) pgs_nil))))) (fun _ _ _ _ _ => pf_nil) (fun _ _ _ _ _ => (pe_tup (pa_cons (pv 0) (pa_cons (pe_op op_add_str (pv 1) (pe_ix (kIx (K := K) rIxL ix_list) (pv 2) (pv 0) (by intro _ _; rfl))) pa_nil)))))
      (pss_cons (ps_compset (i := 4) sc_earliest_of.nd rfl (Or.inl rfl) (by rfl) (by rfl) (blk_mk (N' := ["step", "heads"]) (js := [none, some 2]) rfl (by decide +kernel) rfl (by decide +kernel) rfl rfl) (kPI (K := K) (fun k => iList k _) (pi_list (pe_ix (kIx (K := K) rIxT ix_tup) (pv 1) (pe_globI (by rfl) B.STEPS) (by intro _ _; rfl)))) (fun _ _ _ _ _ => (pg_name (i := 0) (show List.Nodup (["step", "heads"] : List Str) by decide +kernel) rfl (Or.inl rfl))) (fun _ _ _ _ _ => pf_nil) (fun _ _ _ _ _ => (pe_fn C_earlier_step hr (by decide : 1 ≤ 6) (by rfl) (pa_cons (pv 0) (pa_cons (pv 1) pa_nil)))))
      (pss_cons (ps_compset (i := 5) sc_earliest_of.nd rfl (Or.inl rfl) (by rfl) (by rfl) (blk_mk (N' := ["room", "word", "heads"]) (js := [none, none, some 2]) rfl (by decide +kernel) rfl (by decide +kernel) rfl rfl) (kPI (K := K) (fun k => iList k _) (pi_list (pe_ix (kIx (K := K) rIxT ix_tup) (pv 1) (pe_globI (by rfl) B.ENDS) (by intro _ _; rfl)))) (fun _ _ _ _ _ => (kPG (K := K) (fun k => gTup k 2 _) (pg_tup (n := 2) (by rfl) (pgs_cons (pg_name (i := 0) (show List.Nodup (["room", "word", "heads"] : List Str) by decide +kernel) rfl (Or.inl rfl)) (pgs_cons (pg_name (i := 1) (show List.Nodup (["room", "word", "heads"] : List Str) by decide +kernel) rfl (Or.inl rfl)) pgs_nil))))) (fun _ _ _ _ _ => pf_nil) (fun _ _ _ _ _ => (pe_tup (pa_cons (pv 0) (pa_cons (pe_slice sl_str (pv 1) (po_some (pe_callB call_len_str (by rfl) B.len bt_len (pa_cons (pe_ix (kIx (K := K) rIxL ix_list) (pv 2) (pv 0) (by intro _ _; rfl)) pa_nil))) po_none) pa_nil)))))
      (pss_one (ps_ret (pe_tup (pa_cons (pe_ix (kIx (K := K) rIxT ix_tup) (pv 1) (pe_globI (by rfl) B.SIGNS) (by intro _ _; rfl)) (pa_cons (pe_ix (kIx (K := K) rIxT ix_tup) (pv 1) (pe_globI (by rfl) B.ROOMS) (by intro _ _; rfl)) (pa_cons (pv 3) (pa_cons (pv 4) (pa_cons (pv 5) pa_nil)))))))))))))), ?_⟩
  refine ⟨_, rfl, _, s, pb, ps, pe, rfl, hV, ok.ls, ok.le, fun hpl H1 g1 => ?_, fun hpl H1 g1 => hE hpl _ g1⟩
  refine ⟨_, rfl, _, s, pb, ps, pe, rfl, hV.mono g1, ok, hr64, fun vt H2 pbt pst pet g2 hNt _ => ?_⟩
  have okT := trim_ok ok hr64
  have wlT := trim_wl wl
  have plT := trim_plain hpl
  have hVt := hNt.v
  have hLT : L * (trimS s).rooms.toNat ≤ 90000 ∧ L ≤ 9000 := ⟨Nat.le_trans (Nat.mul_le_mul_left L (trim_rooms s)) hL.1, hL.2⟩
  have hL2 : L ≤ 9000 := hL.2
  have rT0 : 0 ≤ (trimS s).rooms := by show (0 : Int) ≤ ((useL s).length : Int); omega
  refine ⟨_, rfl, _, trimS s, pbt, pst, pet, L, rfl, hVt, okT, rT0, wlT, hLT, fun _ l W H3 g3 hl hW hwl el => ?_, fun z => (by rw [plT] at z; cases z)⟩
  obtain ⟨n, hn⟩ : ∃ n, n = (useL s).length := ⟨_, rfl⟩
  have hn2 : (trimS s).rooms.toNat = n := by rw [hn]; exact Int.toNat_natCast _
  have hn3 : (trimS s).rooms = (n : Int) := by rw [hn]; rfl
  rw [hn2] at el
  have hh := hd_len hW
  obtain ⟨av, xb, xs, xe, rfl, t1, t2, t3, t4, t5, t6, t7⟩ := hNt
  have kb : ∀ m ∈ (trimS s).begins, ∃ a, lookW W m.1 = some a := fun m hm => by obtain ⟨m0, _, j, hj, rfl⟩ := mem_keptM.mp hm; exact trim_key ok hW hj
  have ke : ∀ m ∈ (trimS s).ends, ∃ a, lookW W m.1 = some a := fun m hm => by obtain ⟨m0, _, j, hj, rfl⟩ := mem_keptM.mp hm; exact trim_key ok hW hj
  have k1 : ∀ u ∈ (trimS s).steps, ∃ a, lookW W u.1 = some a := fun u hu => by obtain ⟨u0, _, j, k, hj, hk, rfl⟩ := mem_keptS.mp hu; exact trim_key ok hW hj
  have k2 : ∀ u ∈ (trimS s).steps, ∃ a, lookW W u.2.2.2 = some a := fun u hu => by obtain ⟨u0, _, j, k, hj, hk, rfl⟩ := mem_keptS.mp hu; exact trim_key ok hW hk
  have l5 : (trimS s).begins.length = xb.length := t5.length
  have l6 : (trimS s).steps.length = xs.length := t6.length
  have l7 : (trimS s).ends.length = xe.length := t7.length
  have o5 := okT.lb
  have o6 := okT.ls
  have o7 := okT.le
  have t5a := paired_mono (fun _ _ => MkV.mono (Same.grow g3)) t5
  refine ⟨_, rfl, _, _, _, _, rfl, rfl, Same.seqT g3 t1, rfl, pbt, rfl, ⟨xb, g3.seq (SqL.of t2)⟩, ?_⟩
  refine comp_list (xs := xb) (fun i ys τ H' => Same H3 H' ∧ (∃ x y, τ = [x, y, some (.ref l)]) ∧ i ≤ xb.length ∧ Paired (MkV K H') (((trimS s).begins.take i).map (eM W)) ys) ⟨Same.refl _, ⟨_, _, rfl⟩, Nat.zero_le _, .nil⟩ (fun i ys τ H' z => (g3.trans z.1).seq (SqL.of t2)) ?_ ?_
  · rintro i x ys τ H' hx ⟨g', ⟨x0, y0, rfl⟩, hi, hP⟩
    obtain ⟨m, hm, b, rfl, hb⟩ := paired_get t5a hx
    have hil : i < xb.length := (List.getElem?_eq_some_iff.mp hx).1
    have hb1 := (Same.grow g').seqT hb
    have hmm := List.mem_of_getElem? hm
    obtain ⟨aa, ha⟩ := kb m hmm
    have hat := hd_at (s := trimS s) (n := n) (okT.mb m hmm).1 (by rw [← hn3]; exact (okT.mb m hmm).2) ha
    have hyl : ys.length ≤ 999 := by rw [← hP.length, List.length_map, List.length_take]; omega
    have c1 := hh m.1
    have c2 := wlT.wb m hmm
    refine ⟨b, _, rfl, hb1, rfl, _, _, rfl, _, _, rfl, rfl, ?_⟩
    refine ⟨_, rfl, _, rfl, _, rfl, _, rfl, _, _, _, _, rfl, rfl, SqL.of (g' _ _ el), hat, _, _, rfl, rfl, szl (by omega), (by show 2 ≤ sizeLine; decide), fun p hp => ⟨szl' (by omega), g'.trans (same_new hp _), ⟨_, _, rfl⟩, hil, ?_⟩⟩
    rw [take_get hm, List.map_append]
    exact paired_append (paired_mono (fun _ _ => MkV.mono (grow_new hp _)) hP) (.cons ⟨p, rfl, SqT.of upd_same⟩ .nil)
  rintro yb τ H4 ⟨g4, _, _, hPb⟩ lb hlb
  rw [← l5, List.take_length] at hPb
  have gb := same_new hlb (.lst yb)
  have eb := upd_same (H := H4) (a := lb) (o := .lst yb)
  have g4 := g4.trans gb
  have hPb := paired_mono (fun _ _ => MkV.mono (Same.grow gb)) hPb
  have nb3 : H3 lb = none := by
    cases z : H3 lb with
    | none => rfl
    | some o => rw [‹Same H3 H4› _ _ z] at hlb; cases hlb
  generalize upd H4 lb (.lst yb) = H5 at eb g4 hPb ⊢
  have g35 := g3.trans g4
  have t6a := paired_mono (fun _ _ => StV.mono (Same.grow g35)) t6
  refine ⟨_, rfl, _, _, _, _, rfl, rfl, Same.seqT g35 t1, rfl, pst, rfl, ⟨xs, g35.seq (SqL.of t3)⟩, ?_⟩
  refine comp_list (xs := xs) (fun i ys τ H' => Same H5 H' ∧ (∃ x, τ = [x, some (.ref l)]) ∧ i ≤ xs.length ∧ Paired (StV K H') (((trimS s).steps.take i).map (eS W)) ys) ⟨Same.refl _, ⟨_, rfl⟩, Nat.zero_le _, .nil⟩ (fun i ys τ H' z => (g35.trans z.1).seq (SqL.of t3)) ?_ ?_
  · rintro i x ys τ H' hx ⟨g', ⟨x0, rfl⟩, hi, hP⟩
    obtain ⟨u, hu, hub⟩ := paired_get t6a hx
    have hil : i < xs.length := (List.getElem?_eq_some_iff.mp hx).1
    have hum := List.mem_of_getElem? hu
    obtain ⟨b1, b2, b3, b4⟩ := okT.ms u hum
    rw [hn3] at b2 b4
    have hyl : ys.length ≤ 999 := by rw [← hP.length, List.length_map, List.length_take]; omega
    refine ⟨_, rfl, _, rfl, x, u, l, trimS s, W, n, rfl, StV.mono (Same.grow g') hub, g' _ _ (g4 _ _ el), b1, b2, b3, b4, k1 u hum, k2 u hum, Nat.le_trans (wlT.ws u hum) hL2, hh, fun v' H'' g'' hv => ⟨szl' (by omega), g'.trans g'', ⟨_, rfl⟩, hil, ?_⟩⟩
    rw [take_get hu, List.map_append]
    exact paired_append (paired_mono (fun _ _ => StV.mono (Same.grow g'')) hP) (.cons hv .nil)
  rintro ys τ H6 ⟨g6, _, _, hPs⟩ ls hls
  rw [← l6, List.take_length] at hPs
  have gs := same_new hls (.lst ys)
  have es := upd_same (H := H6) (a := ls) (o := .lst ys)
  have nsb : lb ≠ ls := ne_of_none (g6 _ _ eb) hls
  have ns5 : H5 ls = none := g6.free hls
  have g6 := g6.trans gs
  have hPs := paired_mono (fun _ _ => StV.mono (Same.grow gs)) hPs
  generalize upd H6 ls (.lst ys) = H7 at es g6 hPs ⊢
  have g37 := g35.trans g6
  have t7a := paired_mono (fun _ _ => MkV.mono (Same.grow g37)) t7
  refine ⟨_, rfl, _, _, _, _, rfl, rfl, Same.seqT g37 t1, rfl, pet, rfl, ⟨xe, g37.seq (SqL.of t4)⟩, ?_⟩
  refine comp_list (xs := xe) (fun i ys τ H' => Same H7 H' ∧ (∃ x y, τ = [x, y, some (.ref l)]) ∧ i ≤ xe.length ∧ Paired (MkV K H') (((trimS s).ends.take i).map (eE W)) ys) ⟨Same.refl _, ⟨_, _, rfl⟩, Nat.zero_le _, .nil⟩ (fun i ys τ H' z => (g37.trans z.1).seq (SqL.of t4)) ?_ ?_
  · rintro i x ys τ H' hx ⟨g', ⟨x0, y0, rfl⟩, hi, hP⟩
    obtain ⟨m, hm, b, rfl, hb⟩ := paired_get t7a hx
    have hil : i < xe.length := (List.getElem?_eq_some_iff.mp hx).1
    have hb1 := (Same.grow g').seqT hb
    have hmm := List.mem_of_getElem? hm
    obtain ⟨aa, ha⟩ := ke m hmm
    have hat := hd_at (s := trimS s) (n := n) (okT.me m hmm).1 (by rw [← hn3]; exact (okT.me m hmm).2) ha
    have hyl : ys.length ≤ 999 := by rw [← hP.length, List.length_map, List.length_take]; omega
    have c1 := hh m.1
    have c2 := wlT.we m hmm
    refine ⟨b, _, rfl, hb1, rfl, _, _, rfl, _, _, rfl, rfl, ?_⟩
    refine ⟨_, rfl, _, rfl, _, rfl, _, rfl, _, _, _, _, rfl, rfl, SqL.of (g' _ _ (g6 _ _ (g4 _ _ el))), hat, _, rfl, szl (by omega), _, rfl, _, rfl, szl (by omega), (by show 2 ≤ sizeLine; decide), fun p hp => ⟨szl' (by omega), g'.trans (same_new hp _), ⟨_, _, rfl⟩, hil, ?_⟩⟩
    rw [take_get hm, List.map_append]
    exact paired_append (paired_mono (fun _ _ => MkV.mono (grow_new hp _)) hP) (.cons ⟨p, rfl, SqT.of upd_same⟩ .nil)
  rintro ye τ H8 ⟨g8, _, _, hPe⟩ le hle
  rw [← l7, List.take_length] at hPe
  have ge := same_new hle (.lst ye)
  have ee := upd_same (H := H8) (a := le) (o := .lst ye)
  have neb : lb ≠ le := ne_of_none (g8 _ _ (g6 _ _ eb)) hle
  have nes : ls ≠ le := ne_of_none (g8 _ _ es) hle
  have ne7 : H7 le = none := g8.free hle
  have g8 := g8.trans ge
  have hPe := paired_mono (fun _ _ => MkV.mono (Same.grow ge)) hPe
  generalize upd H8 le (.lst ye) = H9 at ee g8 hPe ⊢
  have g39 := g37.trans g8
  refine ⟨_, rfl, _, _, _, _, rfl, rfl, Same.seqT g39 t1, rfl, _, rfl, _, _, _, _, rfl, rfl, Same.seqT g39 t1, rfl, _, rfl, _, rfl, _, rfl, (by show 5 ≤ sizeLine; decide), fun v hv => ?_⟩
  have gv := same_new hv (.tup [V.str (trimS s).signs, V.int (trimS s).rooms, V.ref lb, V.ref ls, V.ref le])
  have gH : Same H H3 := (g1.trans g2).trans g3
  have g57 := g6.trans g8
  exact q hpl _ _ lb ls le W hW (fun r a h => Nat.le_trans (hwl r a h) (Nat.mul_le_mul_left L (trim_rooms s))) (gH.trans ((g4.trans g57).trans gv)) ⟨v, yb, ys, ye, rfl, SqT.of upd_same, gv _ _ (g57 _ _ eb), gv _ _ (g8 _ _ es), gv _ _ ee, paired_mono (fun _ _ => MkV.mono (Same.grow (g57.trans gv))) hPb, paired_mono (fun _ _ => StV.mono (Same.grow (g8.trans gv))) hPs, paired_mono (fun _ _ => MkV.mono (Same.grow gv)) hPe⟩
    ⟨gH.free nb3, (gH.trans g4).free ns5, (gH.trans (g4.trans g6)).free ne7, nsb, neb, nes⟩
theorem sc_law_cell_at : FnScope ["_law_script", "_law_k"] ["_law_script", "_law_k"] (defScope s_law_cell_at) := ⟨rfl, rfl, rfl, by decide +kernel, rfl, by decide +kernel, by decide +kernel⟩
theorem ok_law_cell_at (B : Bi mg) {c_NotPlain : Addr} (XB : Xb K mg c_NotPlain)  {f : Addr} {fd : FuncData} (F : Fun K "_law_cell_at" "_law_cell_at" s_law_cell_at f fd) : FnOk P w K mg base CX0 1 f fd ["_law_script", "_law_k"] (spCell K) := by
  refine F.ok sc_law_cell_at (fun vs H Q E h => ?_) (fun cdv A outer s H vs Q E hr h => ?_)
  · obtain ⟨a, ns, k, rfl, _⟩ := h; rfl
  obtain ⟨a, ns, k, rfl, hS, hk, q⟩ := h
  refine ⟨_, (pss_cons (ps_if (pt_cmpR op_lt (pv 1) (pe_callB (kLen (K := K)) (by rfl) B.len bt_len (pa_cons (pv 0) pa_nil)) (nomark _)) (pss_one (ps_ret (pe_ix (kIx (K := K) rIxL ix_list) (pv 0) (pv 1) (by intro _ _; rfl)))) pss_nil)
      (pss_one (ps_ret pe_int))), ?_⟩
  refine ⟨_, rfl, _, rfl, a, _, rfl, .inl hS, _, _, rfl, rfl, _, rfl, ?_⟩
  rw [List.length_map]
  refine iteDd (fun c => ?_) (fun c => ?_)
  · obtain ⟨v, h1, h2⟩ := at_some (xs := ns) hk c
    refine ⟨_, rfl, _, rfl, a, _, _, .int v, rfl, rfl, hS, ?_, ?_⟩
    · obtain ⟨j, rfl⟩ := Int.eq_ofNat_of_zero_le hk
      exact atI_nat (by rw [List.getElem?_map]; rw [Int.toNat_natCast] at h2; rw [h2]; rfl)
    · have e : cellAt ns k = v := by unfold cellAt; rw [if_pos c, h2]; rfl
      rw [← e]; exact q
  · have e : cellAt ns k = 0 := by unfold cellAt; rw [if_neg c]
    rw [e] at q
    exact q
theorem sc_law_whole : FnScope ["_law_found"] ["_law_found"] (defScope s_law_whole) := ⟨rfl, rfl, rfl, by decide +kernel, rfl, by decide +kernel, by decide +kernel⟩
theorem ok_law_whole (B : Bi mg) {c_NotPlain : Addr} (XB : Xb K mg c_NotPlain)  {f : Addr} {fd : FuncData} (F : Fun K "_law_whole" "_law_whole" s_law_whole f fd) : FnOk P w K mg base CX0 1 f fd ["_law_found"] (spWholeI K) := by
  refine F.ok sc_law_whole (fun vs H Q E h => ?_) (fun cdv A outer s H vs Q E hr h => ?_)
  · obtain ⟨i, rfl, _⟩ := h; rfl
  obtain ⟨i, rfl, q⟩ := h
  refine ⟨_, (pss_one (ps_ret (pe_and (pe_callB (kCall (K := K) rIs call_isinst) (by rfl) B.isinstance bt_isinstance (pa_cons (pv 0) (pa_cons (pe_ty (by rfl) B.int bt_int) pa_nil))) (pe_one (pe_not (pe_callB (kCall (K := K) rIs call_isinst) (by rfl) B.isinstance bt_isinstance (pa_cons (pv 0) (pa_cons (pe_ty (by rfl) B.bool bt_bool) pa_nil)))))))), ?_⟩
  refine ⟨_, rfl, _, "int", _, _, rfl, TyOf.int _, is_int, _, rfl, iteT ?_⟩
  exact ⟨_, rfl, _, "bool", _, _, rfl, TyOf.int _, is_intb, _, rfl, q⟩
theorem sc_law_mixed : FnScope ["_law_cell", "_law_k", "_law_number"] ["_law_cell", "_law_k"] (defScope s_law_mixed) := ⟨rfl, rfl, rfl, by decide +kernel, rfl, by decide +kernel, by decide +kernel⟩
theorem ok_law_mixed (B : Bi mg) {c_NotPlain : Addr} (XB : Xb K mg c_NotPlain)  {f : Addr} {fd : FuncData} (F : Fun K "_law_mixed" "_law_mixed" s_law_mixed f fd) : FnOk P w K mg base CX0 1 f fd ["_law_cell", "_law_k"] (spMixed) := by
  refine F.ok sc_law_mixed (fun vs H Q E h => ?_) (fun cdv A outer s H vs Q E hr h => ?_)
  · obtain ⟨c, k, rfl, _⟩ := h; rfl
  obtain ⟨c, k, rfl, q⟩ := h
  refine ⟨_, (pss_cons (ps_set (i := 2) sc_law_mixed.nd rfl (Or.inl rfl) (pe_abs (pe_op op_mod (pe_op op_add (pe_op op_add (pe_op op_mul (pe_op op_mod (pv 0) pe_int) pe_int) (pe_op op_mul (pv 1) pe_int)) pe_int) pe_int)))
      (pss_cons (ps_set (i := 2) sc_law_mixed.nd rfl (Or.inl rfl) (pe_abs (pe_op op_mod (pe_op op_mul (pv 2) (pv 2)) pe_int)))
      (pss_one (ps_ret (pe_op op_mod (pe_op op_mul (pv 2) (pv 2)) pe_int))))), ?_⟩
  refine ⟨fun v H' => H = H' ∧ isNum 0 2147483647 v, ⟨_, rfl, _, _, rfl, rfl, pz, _, _, rfl, rfl, .inr ⟨by decide, by decide⟩, _, rfl, _, _, rfl, rfl, .inr ⟨by decide, by decide⟩, _, _, rfl, rfl, _, _, rfl, rfl, _, _, rfl, rfl, pz, rfl, _, rfl, by omega, by omega⟩, ?_⟩
  rintro _ _ ⟨rfl, n, rfl, h0, h1⟩
  refine ⟨fun v H' => H = H' ∧ isNum 0 2147483647 v, ⟨_, rfl, _, rfl, _, _, rfl, rfl, .inl ⟨by omega, by omega⟩, _, _, rfl, rfl, pz, rfl, _, rfl, by omega, by omega⟩, ?_⟩
  rintro _ _ ⟨rfl, m, rfl, h2, h3⟩
  exact ⟨_, rfl, _, rfl, _, _, rfl, rfl, .inl ⟨by omega, by omega⟩, _, _, rfl, rfl, pz, q _ (Int.emod_nonneg _ (by decide)) (Int.emod_lt_of_pos _ (by decide))⟩
theorem sc_law_word : FnScope ["_law_rest_here", "_law_letters", "_law_size", "_law_word_here", "_law_k"] ["_law_rest_here"] (defScope s_law_word) := ⟨rfl, rfl, rfl, by decide +kernel, rfl, by decide +kernel, by decide +kernel⟩
theorem ok_law_word (B : Bi mg) {c_NotPlain : Addr} (XB : Xb K mg c_NotPlain)  {f : Addr} {fd : FuncData} (F : Fun K "_law_word" "_law_word" s_law_word f fd) : FnOk P w K mg base CX0 1 f fd ["_law_rest_here"] (spWord) := by
  refine F.ok sc_law_word (fun vs H Q E h => ?_) (fun cdv A outer s H vs Q E hr h => ?_)
  · obtain ⟨a, rfl, _⟩ := h; rfl
  obtain ⟨c, rfl, q⟩ := h
  refine ⟨_, (pss_cons (ps_set (i := 1) sc_law_word.nd rfl (Or.inl rfl) (pe_ix (kIx (K := K) rPick ix_pick) (pe_lst (pa_cons pe_str (pa_cons pe_str (pa_cons pe_str pa_nil)))) (pe_op op_mod (pv 0) pe_int) (by intro _ _; rfl)))
      (pss_cons (ps_set (i := 2) sc_law_word.nd rfl (Or.inl rfl) (pe_ix (kIx (K := K) rPick ix_pick) (pe_lst (pa_cons pe_int (pa_cons pe_int (pa_cons pe_int (pa_cons pe_int (pa_cons pe_int (pa_cons pe_int pa_nil))))))) (pe_op op_mod (pe_op op_fdiv (pv 0) pe_int) pe_int) (by intro _ _; rfl)))
      (pss_mid (ps_if (pt_cmpR op_eq (pe_op op_mod (pe_op op_fdiv (pv 0) pe_int) pe_int) pe_int (nomark _)) (pss_cons (ps_set (i := 2) sc_law_word.nd rfl (Or.inl rfl) (pe_op op_mod (pe_op op_fdiv (pv 0) pe_int) pe_int))
      (pss_one (ps_set (i := 0) sc_law_word.nd rfl (Or.inl rfl) (pe_op op_fdiv (pv 0) pe_int)))) pss_nil)
      (pss_cons (ps_set (i := 0) sc_law_word.nd rfl (Or.inl rfl) (pe_op op_fdiv (pv 0) pe_int))
      (pss_cons (ps_set (i := 3) sc_law_word.nd rfl (Or.inl rfl) pe_str)
      (pss_cons (ps_for PassesOwn.never (by rfl) (pi_range1 (by rfl) B.range (pa_cons (pv 2) pa_nil)) (pg_name (i := 4) sc_law_word.nd rfl (Or.inl rfl)) (pss_cons (ps_set (i := 3) sc_law_word.nd rfl (Or.inl rfl) (pe_op op_add_str (pv 3) (pe_ix ix_str (pv 1) (pe_op op_mod (pe_op op_add (pv 0) (pe_op op_mul (pv 4) (pv 4))) (pe_callB call_len_str (by rfl) B.len bt_len (pa_cons (pv 1) pa_nil))) (by intro _ _; rfl))))
      (pss_one (ps_set (i := 0) sc_law_word.nd rfl (Or.inl rfl) (pe_op op_fdiv (pv 0) (pe_callB call_len_str (by rfl) B.len bt_len (pa_cons (pv 1) pa_nil)))))))
      (pss_one (ps_ret (pv 3))))))))), ?_⟩
  refine ⟨szl (by simp), fun p hp => ⟨_, rfl, _, _, rfl, rfl, pz, p, _, _, rfl, rfl, SqL.of upd_same, by omega, (by show c % 3 < 3; omega), isLet, ?_, ?_⟩⟩
  · intro v hv
    simp only [List.mem_cons, List.not_mem_nil, or_false] at hv
    rcases hv with rfl | rfl | rfl <;> exact ⟨_, rfl, by decide +kernel, by decide +kernel, by decide +kernel⟩
  rintro _ ⟨z, rfl, hz1, hz2, hzl⟩
  have g1 := same_new hp (.lst [V.str "ab", V.str "a", V.str "abcdefghijklmnopqrstuvwxyz"])
  generalize upd H p (.lst [V.str "ab", V.str "a", V.str "abcdefghijklmnopqrstuvwxyz"]) = H1 at g1 ⊢
  refine ⟨szl (by simp), fun p2 hp2 => ⟨_, rfl, _, _, rfl, rfl, ⟨by decide, by decide⟩, _, _, rfl, rfl, pz, p2, _, _, rfl, rfl, SqL.of upd_same, by omega, (by show c / 3 % 6 < 6; omega), isNum 0 4, ?_, ?_⟩⟩
  · intro v hv
    simp only [List.mem_cons, List.not_mem_nil, or_false] at hv
    rcases hv with rfl | rfl | rfl | rfl | rfl | rfl <;> exact ⟨_, rfl, by decide, by decide⟩
  rintro _ ⟨n, rfl, hn0, hn4⟩
  have g2 := g1.trans (same_new hp2 (.lst [V.int 0, V.int 1, V.int 1, V.int 2, V.int 3, V.int 4]))
  generalize upd H1 p2 (.lst [V.int 0, V.int 1, V.int 1, V.int 2, V.int 3, V.int 4]) = H2 at g2 ⊢
  refine ⟨fun σ H' => H2 = H' ∧ ∃ n r : Int, 0 ≤ n ∧ n ≤ 40 ∧ σ = [some (.int r), some (.str z), some (.int n), none, none], ?_, ?_⟩
  · refine ⟨_, rfl, _, _, rfl, rfl, ⟨by decide, by decide⟩, _, _, rfl, rfl, pz, rfl, _, rfl, iteDd (fun _ => ?_) (fun _ => ⟨rfl, n, c, hn0, by omega, rfl⟩)⟩
    refine ⟨_, rfl, _, _, rfl, rfl, ⟨by decide, by decide⟩, _, _, rfl, rfl, pz, ?_⟩
    refine ⟨_, rfl, _, _, rfl, rfl, ⟨by decide, by decide⟩, ?_⟩
    exact ⟨rfl, c / 216 % 41, _, by omega, by omega, rfl⟩
  rintro σ H' ⟨rfl, n, r, h0, h1, rfl⟩
  refine ⟨_, rfl, _, _, rfl, rfl, ⟨by decide, by decide⟩, ?_⟩
  refine ⟨_, rfl, _, rfl, by omega, by omega, ?_⟩
  refine for_range (fun i σ H' => H2 = H' ∧ ∃ (r : Int) (x : Str) (y : Option V), x.length = i ∧ (∀ c ∈ cl x, 97 ≤ c ∧ c ≤ 122) ∧ σ = [some (.int r), some (.str z), some (.int n), some (.str x), y]) ⟨rfl, _, "", _, rfl, cl_nil, rfl⟩ ?_ ?_
  · rintro i σ H' hi ⟨rfl, r2, x, y, hx, hxl, rfl⟩
    have hzp : (0 : Int) < z.length ∧ (z.length : Int) < 1073741824 := by omega
    obtain ⟨c', hc, hm⟩ := at_mem (xs := cl z) (i := (r2 + (0 + (i : Int)) * (0 + (i : Int))) % (z.length : Int)) (Int.emod_nonneg _ (by omega)) (by rw [cl_length]; exact Int.emod_lt_of_pos _ hzp.1)
    refine ⟨_, rfl, _, rfl, _, rfl, _, rfl, _, rfl, _, _, rfl, rfl, .inl ⟨by omega, by omega⟩, _, _, rfl, rfl, _, rfl, z, rfl, szl (by omega), _, _, rfl, rfl, hzp.1, z, _, c', rfl, rfl, szl (by omega), hc, _, _, rfl, rfl, szl (by rw [hx, one_len]; omega), ?_⟩
    refine ⟨_, rfl, _, rfl, z, rfl, szl (by omega), _, _, rfl, rfl, hzp, ?_⟩
    refine ⟨rfl, _, _, _, ?_, ?_, rfl⟩
    · rw [len_app, hx]; rfl
    · intro c1 h1
      rw [cl_append] at h1
      rcases List.mem_append.mp h1 with h1 | h1
      · exact hxl c1 h1
      · rw [cl_one, List.mem_singleton] at h1
        subst h1; exact hzl c1 hm
  · rintro σ H' ⟨rfl, r2, x, y, hx, hxl, rfl⟩
    refine ⟨_, rfl, ?_⟩
    exact q x _ ⟨by omega, hxl⟩ g2
theorem sc_law_signs : FnScope ["_law_number", "_law_letters", "_law_many"] ["_law_number"] (defScope s_law_signs) := ⟨rfl, rfl, rfl, by decide +kernel, rfl, by decide +kernel, by decide +kernel⟩
theorem ok_law_signs (B : Bi mg) {c_NotPlain : Addr} (XB : Xb K mg c_NotPlain)  {f : Addr} {fd : FuncData} (F : Fun K "_law_signs" "_law_signs" s_law_signs f fd) : FnOk P w K mg base CX0 1 f fd ["_law_number"] (spSigns2) := by
  refine F.ok sc_law_signs (fun vs H Q E h => ?_) (fun cdv A outer s H vs Q E hr h => ?_)
  · obtain ⟨n, rfl, _⟩ := h; rfl
  obtain ⟨m, rfl, q⟩ := h
  refine ⟨_, (pss_cons (ps_set (i := 1) sc_law_signs.nd rfl (Or.inr rfl) pe_str)
      (pss_cons (ps_set (i := 2) sc_law_signs.nd rfl (Or.inl rfl) (pe_ix (kIx (K := K) rPick ix_pick) (pe_lst (pa_cons pe_int (pa_cons pe_int (pa_cons pe_int (pa_cons pe_int (pa_cons pe_int pa_nil)))))) (pe_op op_mod (pe_op op_fdiv (pv 0) pe_int) pe_int) (by intro _ _; rfl)))
      (pss_one (ps_ret (kPE (K := K) (fun k => tBM k _ _ _ _) (pe_bm PySem.F.plainAttrs_str PySem.F.slot_str_join PySem.F.type_str_join mt_join pe_str (pa_cons (pe_comp rfl (blk_mk (N' := ["_law_k", "_law_letters", "_law_number"]) (js := [none, some 1, some 0]) rfl (by decide +kernel) rfl (by decide +kernel) rfl rfl) (pi_range1 (by rfl) B.range (pa_cons (pv 2) pa_nil)) (fun _ _ _ _ _ => (pg_name (i := 0) (show List.Nodup (["_law_k", "_law_letters", "_law_number"] : List Str) by decide +kernel) rfl (Or.inl rfl))) (fun _ _ _ _ _ => pf_nil) (fun _ _ _ _ _ => (pe_ix ix_str (pv 1) (pe_op op_mod (pe_op op_add (pv 2) (pe_op op_mul pe_int (pv 0))) pe_int) (by intro _ _; rfl)))) pa_nil))))))), ?_⟩
  refine ⟨szl (by simp), fun p hp => ⟨_, rfl, _, _, rfl, rfl, ⟨by decide, by decide⟩, _, _, rfl, rfl, pz, p, _, _, rfl, rfl, SqL.of upd_same, by omega, (by show m / 26 % 5 < 5; omega), isNum 1 5, ?_, ?_⟩⟩
  · intro v hv
    simp only [List.mem_cons, List.not_mem_nil, or_false] at hv
    rcases hv with rfl | rfl | rfl | rfl | rfl <;> exact ⟨_, rfl, by decide, by decide⟩
  rintro _ ⟨n, rfl, hn1, hn5⟩
  have g1 := same_new hp (.lst [V.int 1, V.int 2, V.int 2, V.int 3, V.int 5])
  generalize upd H p (.lst [V.int 1, V.int 2, V.int 2, V.int 3, V.int 5]) = H1 at g1 ⊢
  obtain ⟨k, rfl⟩ := Int.eq_ofNat_of_zero_le (show 0 ≤ n by omega)
  refine ⟨rfl, _, rfl, _, rfl, by omega, by omega, ?_⟩
  refine comp_range (fun i ys τ H' => H1 = H' ∧ (∃ x, τ = [x, some (.str "abcdefghijklmnopqrstuvwxyz"), some (.int m)]) ∧ i ≤ 5 ∧ ys = ((List.range i).map (sgC m)).map fun c => V.str ⟨#[c]⟩) ⟨rfl, ⟨_, rfl⟩, Nat.zero_le _, rfl⟩ ?_ ?_
  · rintro i ys τ _ hi ⟨rfl, ⟨x, rfl⟩, h5, rfl⟩
    have hj0 := Int.emod_nonneg (m + 7 * (0 + (i : Int))) (show (26 : Int) ≠ 0 by decide)
    have hj1 := Int.emod_lt_of_pos (m + 7 * (0 + (i : Int))) (show (0 : Int) < 26 by decide)
    refine ⟨_, rfl, _, rfl, _, rfl, _, _, rfl, rfl, .inl ⟨by decide, by decide⟩, _, _, rfl, rfl, _, _, rfl, rfl, pz, _, _, _, rfl, rfl, szl (by rw [abc_len]; decide), abc_at hj0 hj1, szl' (by simp; omega), rfl, ⟨_, rfl⟩, by omega, ?_⟩
    rw [List.range_succ, List.map_append, List.map_append]
    unfold sgC
    rw [Int.zero_add]
    rfl
  rintro ys τ _ ⟨rfl, _, _, rfl⟩ p2 hp2
  have e : (((List.range (k : Int).toNat).map (sgC m)).map fun c => V.str ⟨#[c]⟩) = (((List.range (k : Int).toNat).map (sgC m)).map fun c => (⟨#[c]⟩ : Str)).map V.str := by rw [List.map_map, List.map_map, List.map_map]; rfl
  refine ⟨"", p2, ((List.range (k : Int).toNat).map (sgC m)).map fun c => (⟨#[c]⟩ : Str), rfl, rfl, SqL.of (by rw [← e]; exact upd_same), ?_, ?_⟩
  · have h1 : ∀ cs : List Nat, ((cs.map fun c => (⟨#[c]⟩ : Str)).map (·.length)).sum = cs.length := fun cs => by
      induction cs with
      | nil => rfl
      | cons c cs ih => rw [List.map_cons, List.map_cons, List.sum_cons, ih, List.length_cons, one_len]; omega
    rw [h1]
    have e0 : ("" : Str).length = 0 := by decide +kernel
    simp [e0]
    omega
  · rw [join_cat]
    exact q _ _ (sg_ok m (by omega) (by omega)) (g1.trans (same_new hp2 _))
theorem sc_law_rest : FnScope ["_law_script", "_law_k", "_law_salt", "_law_cell", "_law_big"] ["_law_script", "_law_k", "_law_salt"] (defScope s_law_rest) := ⟨rfl, rfl, rfl, by decide +kernel, rfl, by decide +kernel, by decide +kernel⟩
theorem ok_law_rest (B : Bi mg) {c_NotPlain : Addr} (XB : Xb K mg c_NotPlain) (C_law_cell_at : Cal P w K mg base "_law_cell_at" ["_law_script", "_law_k"] 1 (spCell K)) (C_law_mixed : Cal P w K mg base "_law_mixed" ["_law_cell", "_law_k"] 1 (spMixed)) {f : Addr} {fd : FuncData} (F : Fun K "_law_rest" "_law_rest" s_law_rest f fd) : FnOk P w K mg base CX0 2 f fd ["_law_script", "_law_k", "_law_salt"] (spRest K) := by
  refine F.ok sc_law_rest (fun vs H Q E h => ?_) (fun cdv A outer s H vs Q E hr h => ?_)
  · obtain ⟨a, ns, k, salt, rfl, _⟩ := h; rfl
  obtain ⟨a, ns, k, salt, rfl, hS, hk, s0, s1, q⟩ := h
  refine ⟨_, (pss_cons (ps_set (i := 3) sc_law_rest.nd rfl (Or.inl rfl) (pe_fn C_law_cell_at hr (by decide : 1 ≤ 1) (by rfl) (pa_cons (pv 0) (pa_cons (pv 1) pa_nil))))
      (pss_cons (ps_if (pt_cmpR op_eq (pe_op op_mod (pe_fn C_law_cell_at hr (by decide : 1 ≤ 1) (by rfl) (pa_cons (pv 0) (pa_cons pe_int pa_nil))) pe_int) pe_int (nomark _)) (pss_one (ps_ret (pe_op op_shr (pv 3) (pe_op op_mul (pe_op op_fdiv (pv 2) pe_int) pe_int)))) pss_nil)
      (pss_cons (ps_set (i := 4) sc_law_rest.nd rfl (Or.inl rfl) (pe_op op_add (pe_fn C_law_mixed hr (by decide : 1 ≤ 1) (by rfl) (pa_cons (pv 3) (pa_cons (pe_op op_add (pv 1) (pv 2)) pa_nil))) (pe_op op_mul (pe_fn C_law_mixed hr (by decide : 1 ≤ 1) (by rfl) (pa_cons (pv 3) (pa_cons (pe_op op_add (pe_op op_add (pv 1) (pv 2)) pe_int) pa_nil))) pe_int)))
      (pss_one (ps_ret (pe_op op_add (pv 4) (pe_op op_mul (pe_op op_mul (pe_fn C_law_mixed hr (by decide : 1 ≤ 1) (by rfl) (pa_cons (pv 3) (pa_cons (pe_op op_add (pe_op op_add (pv 1) (pv 2)) pe_int) pa_nil))) pe_int) pe_int))))))), ?_⟩
  refine ⟨_, rfl, _, rfl, a, ns, k, rfl, hS, hk, ?_⟩
  generalize cellAt ns k = c
  refine ⟨_, rfl, a, ns, 0, rfl, hS, (by decide), _, _, rfl, rfl, pz, rfl, _, rfl, ?_⟩
  refine iteDd (fun _ => ?_) (fun _ => ?_)
  · exact ⟨_, rfl, _, rfl, _, _, rfl, rfl, ⟨by decide, by decide⟩, _, _, rfl, rfl, .inr ⟨by decide, by decide⟩, _, _, rfl, rfl, (by show 0 ≤ salt / 2000 * 300; omega), q _⟩
  refine ⟨_, rfl, _, rfl, _, rfl, _, _, rfl, rfl, _, _, rfl, fun n1 _ _ => ?_⟩
  refine ⟨_, rfl, _, rfl, _, rfl, _, _, rfl, rfl, _, _, rfl, rfl, _, _, rfl, fun n2 _ _ => ⟨_, _, rfl, rfl, .inr ⟨by decide, by decide⟩, _, _, rfl, rfl, ?_⟩⟩
  exact ⟨_, rfl, _, rfl, _, rfl, _, rfl, _, _, rfl, rfl, _, _, rfl, rfl, _, _, rfl, fun n3 _ _ => ⟨_, _, rfl, rfl, .inr ⟨by decide, by decide⟩, _, _, rfl, rfl, .inr ⟨by decide, by decide⟩, _, _, rfl, rfl, q _⟩⟩
theorem sc_law_plain : FnScope ["_law_script", "_law_salt", "_law_most", "_law_rest_here", "_law_signs_here", "_law_rooms", "_law_begins", "_law_steps", "_law_ends", "_law_k", "_law_room", "_law_sign", "_law_amid"] ["_law_script", "_law_salt", "_law_most"] (defScope s_law_plain) := ⟨rfl, rfl, rfl, by decide +kernel, rfl, by decide +kernel, by decide +kernel⟩
theorem ok_law_plain (B : Bi mg) {c_NotPlain : Addr} (XB : Xb K mg c_NotPlain) (C_law_signs : Cal P w K mg base "_law_signs" ["_law_number"] 1 (spSigns2)) (C_law_rest : Cal P w K mg base "_law_rest" ["_law_script", "_law_k", "_law_salt"] 2 (spRest K)) (C_law_word : Cal P w K mg base "_law_word" ["_law_rest_here"] 1 (spWord)) {f : Addr} {fd : FuncData} (F : Fun K "_law_plain" "_law_plain" s_law_plain f fd) : FnOk P w K mg base CX0 3 f fd ["_law_script", "_law_salt", "_law_most"] (spDrawP K) := by
  refine F.ok sc_law_plain (fun vs H Q E h => ?_) (fun cdv A outer s H vs Q E hr h => ?_)
  · obtain ⟨a, ns, salt, most, rfl, _⟩ := h; rfl
  obtain ⟨a, ns, salt, most, rfl, hS, h63, s0, s1, m0, m1, q⟩ := h
  refine ⟨_, (pss_cons (ps_set (i := 3) sc_law_plain.nd rfl (Or.inl rfl) (pe_abs (pe_op op_fdiv (pe_fn C_law_rest hr (by decide : 2 ≤ 2) (by rfl) (pa_cons (pv 0) (pa_cons pe_int (pa_cons (pv 1) pa_nil)))) pe_int)))
      (pss_cons (ps_set (i := 4) sc_law_plain.nd rfl (Or.inl rfl) (pe_fn C_law_signs hr (by decide : 1 ≤ 2) (by rfl) (pa_cons (pv 3) pa_nil)))
      (pss_cons (ps_set (i := 5) sc_law_plain.nd rfl (Or.inl rfl) (pe_abs (pe_op op_mod (pe_op op_fdiv (pv 3) pe_int) (pe_op op_add (pv 2) pe_int))))
      (pss_cons (ps_set (i := 3) sc_law_plain.nd rfl (Or.inl rfl) (pe_abs (pe_op op_fdiv (pe_op op_fdiv (pv 3) pe_int) (pe_op op_add (pv 2) pe_int))))
      (pss_cons (ps_set (i := 6) sc_law_plain.nd rfl (Or.inl rfl) (pe_lst pa_nil))
      (pss_mid (ps_if (PW.pt (pw_and (pt_cmpR op_gt (pv 5) pe_int (nomark _)) (pw_and1 (pt_cmpR op_gt (pe_op op_mod (pv 3) pe_int) pe_int (nomark _))))) (pss_one (ps_set (i := 6) sc_law_plain.nd rfl (Or.inl rfl) (pe_lst (pa_cons (pe_tup (pa_cons (pe_op op_mod (pe_op op_fdiv (pv 3) pe_int) (pv 5)) (pa_cons (pe_fn C_law_word hr (by decide : 1 ≤ 2) (by rfl) (pa_cons (pe_op op_fdiv (pe_op op_fdiv (pv 3) pe_int) (pv 5)) pa_nil)) pa_nil))) pa_nil)))) pss_nil)
      (pss_cons (ps_set (i := 7) sc_law_plain.nd rfl (Or.inl rfl) pe_dnewT)
      (pss_cons (ps_set (i := 8) sc_law_plain.nd rfl (Or.inl rfl) pe_dnewK)
      (pss_cons (ps_for PassesOwn.never (by rfl) (pi_range2 (by rfl) B.range (pa_cons pe_int (pa_cons (pe_callB (call_min2 (by rfl)) (by rfl) B.min bt_min (pa_cons pe_int (pa_cons (pe_callB (kLen (K := K)) (by rfl) B.len bt_len (pa_cons (pv 0) pa_nil)) pa_nil))) pa_nil))) (pg_name (i := 9) sc_law_plain.nd rfl (Or.inl rfl)) (pss_cons (ps_set (i := 3) sc_law_plain.nd rfl (Or.inl rfl) (pe_abs (pe_fn C_law_rest hr (by decide : 2 ≤ 2) (by rfl) (pa_cons (pv 0) (pa_cons (pv 9) (pa_cons (pv 1) pa_nil))))))
      (pss_cons (ps_set (i := 10) sc_law_plain.nd rfl (Or.inl rfl) (pe_abs (pe_op op_mod (pe_op op_fdiv (pv 3) pe_int) (pe_callB (call_max2 (by rfl)) (by rfl) B.max bt_max (pa_cons (pv 5) (pa_cons pe_int pa_nil))))))
      (pss_one (ps_if (PW.pt (pw_and (pt_cmpR op_gt (pv 5) pe_int (nomark _)) (pw_and1 (pt_cmpR op_eq (pe_op op_mod (pv 3) pe_int) pe_int (nomark _))))) (pss_one (ps_dput (hu_of hr) (pv 8) (pv 10) (pe_fn C_law_word hr (by decide : 1 ≤ 2) (by rfl) (pa_cons (pe_op op_fdiv (pe_op op_fdiv (pv 3) pe_int) (pv 5)) pa_nil)) rfl)) (pss_one (ps_if (pt_cmpR op_gt (pv 5) pe_int (nomark _)) (pss_cons (ps_set (i := 11) sc_law_plain.nd rfl (Or.inl rfl) (pe_ix ix_str (pv 4) (pe_op op_mod (pe_op op_fdiv (pe_op op_fdiv (pv 3) pe_int) (pv 5)) (pe_callB call_len_str (by rfl) B.len bt_len (pa_cons (pv 4) pa_nil))) (by intro _ _; rfl)))
      (pss_cons (ps_set (i := 3) sc_law_plain.nd rfl (Or.inl rfl) (pe_abs (pe_op op_fdiv (pe_op op_fdiv (pe_op op_fdiv (pv 3) pe_int) (pv 5)) (pe_callB call_len_str (by rfl) B.len bt_len (pa_cons (pv 4) pa_nil)))))
      (pss_one (ps_dput (hu_of hr) (pv 7) (pe_tup (pa_cons (pv 10) (pa_cons (pv 11) pa_nil))) (pe_tup (pa_cons (pe_fn C_law_word hr (by decide : 1 ≤ 2) (by rfl) (pa_cons (pe_op op_fdiv (pv 3) (pv 5)) pa_nil)) (pa_cons (pe_op op_mod (pv 3) (pv 5)) pa_nil))) rfl)))) pss_nil)))))))
      (pss_cons (ps_compset (i := 12) sc_law_plain.nd rfl (Or.inl rfl) (by rfl) (by rfl) (blk_mk (N' := ["_law_pair", "_law_told"]) (js := [none, none]) rfl (by decide +kernel) rfl (by decide +kernel) rfl rfl) (pi_pairs (pv 7)) (fun _ _ _ _ _ => (kPG (K := K) (fun k => gTup k 2 _) (pg_tup (n := 2) (by rfl) (pgs_cons (pg_name (i := 0) (show List.Nodup (["_law_pair", "_law_told"] : List Str) by decide +kernel) rfl (Or.inl rfl)) (pgs_cons (pg_name (i := 1) (show List.Nodup (["_law_pair", "_law_told"] : List Str) by decide +kernel) rfl (Or.inl rfl)) pgs_nil))))) (fun _ _ _ _ _ => pf_nil) (fun _ _ _ _ _ => (pe_tup (pa_cons (pe_ix (kIx (K := K) rIxT ix_tup) (pv 0) pe_int (by intro _ _; rfl)) (pa_cons (pe_ix (kIx (K := K) rIxT ix_tup) (pv 0) pe_int (by intro _ _; rfl)) (pa_cons (pe_ix (kIx (K := K) rIxT ix_tup) (pv 1) pe_int (by intro _ _; rfl)) (pa_cons (pe_ix (kIx (K := K) rIxT ix_tup) (pv 1) pe_int (by intro _ _; rfl)) pa_nil)))))))
      (pss_one (ps_ret (pe_tup (pa_cons (pv 4) (pa_cons (pv 5) (pa_cons (pv 6) (pa_cons (pv 12) (pa_cons (pe_comp rfl (blk_mk (N' := ["_law_room", "_law_word_here"]) (js := [none, none]) rfl (by decide +kernel) rfl (by decide +kernel) rfl rfl) (pi_items (pv 8)) (fun _ _ _ _ _ => (kPG (K := K) (fun k => gTup k 2 _) (pg_tup (n := 2) (by rfl) (pgs_cons (pg_name (i := 0) (show List.Nodup (["_law_room", "_law_word_here"] : List Str) by decide +kernel) rfl (Or.inl rfl)) (pgs_cons (pg_name (i := 1) (show List.Nodup (["_law_room", "_law_word_here"] : List Str) by decide +kernel) rfl (Or.inl rfl)) pgs_nil))))) (fun _ _ _ _ _ => pf_nil) (fun _ _ _ _ _ => (pe_tup (pa_cons (pv 0) (pa_cons (pv 1) pa_nil))))) pa_nil)))))))))))))))))), ?_⟩
  refine ⟨fun v H' => H = H' ∧ ∃ n : Int, v = .int n, ⟨_, rfl, _, rfl, a, ns, 0, salt, rfl, hS, by decide, s0, s1, fun n => ⟨_, _, rfl, rfl, ⟨by decide, by decide⟩, rfl, _, rfl⟩⟩, ?_⟩
  rintro _ _ ⟨rfl, n0, rfl⟩
  refine ⟨_, rfl, n0, rfl, fun g H1 hg g1 => ?_⟩
  obtain ⟨hg1, hg2, hg3, hg4⟩ := hg
  refine ⟨fun v H' => H1 = H' ∧ isNum 0 14 v, ⟨_, rfl, _, _, rfl, rfl, ⟨by decide, by decide⟩, _, rfl, _, _, rfl, rfl, _, _, rfl, rfl, (by show 0 < most + 1; omega), rfl, _, rfl, ?_, ?_⟩, ?_⟩
  · exact Int.emod_nonneg _ (by omega)
  · have := Int.emod_lt_of_pos (n0 / 130) (show 0 < most + 1 by omega)
    omega
  rintro _ _ ⟨rfl, r, rfl, hr0, hr1⟩
  refine ⟨fun v H' => H1 = H' ∧ ∃ n : Int, v = .int n, ⟨_, rfl, _, _, rfl, rfl, ⟨by decide, by decide⟩, _, rfl, _, _, rfl, rfl, _, _, rfl, rfl, ⟨by omega, by omega⟩, rfl, _, rfl⟩, ?_⟩
  rintro _ _ ⟨rfl, n1, rfl⟩
  refine ⟨szl (by simp), fun pb0 hpb0 => ?_⟩
  have gb0 := same_new hpb0 (.lst [])
  have eb0 := upd_same (H := H1) (a := pb0) (o := .lst [])
  generalize upd H1 pb0 (.lst []) = H2 at gb0 eb0 ⊢
  refine ⟨fun σ' H' => ∃ (pb : Addr) (xb : List V) (B : List Mk), σ' = [some (.ref a), some (.int salt), some (.int most), some (.int n1), some (.str g), some (.int r), some (.ref pb), none, none, none, none, none, none] ∧ Same H1 H' ∧ H' pb = some (.lst xb) ∧ Paired (MkV K H') B xb ∧ B.length ≤ 1 ∧ ∀ m ∈ B, 0 ≤ m.1 ∧ m.1 < r ∧ Wd m.2, ?_, ?_⟩
  · have no : ∃ (pb : Addr) (xb : List V) (B : List Mk), [some (V.ref a), some (V.int salt), some (V.int most), some (V.int n1), some (V.str g), some (V.int r), some (V.ref pb0), none, none, none, none, none, none] = [some (.ref a), some (.int salt), some (.int most), some (.int n1), some (.str g), some (.int r), some (.ref pb), none, none, none, none, none, none] ∧ Same H1 H2 ∧ H2 pb = some (.lst xb) ∧ Paired (MkV K H2) B xb ∧ B.length ≤ 1 ∧ ∀ m ∈ B, 0 ≤ m.1 ∧ m.1 < r ∧ Wd m.2 := ⟨pb0, [], [], rfl, gb0, eb0, .nil, by simp, by simp⟩
    refine ⟨_, rfl, _, _, rfl, rfl, _, rfl, iteDd (fun hr => ?_) (fun _ => no)⟩
    have hrr : 0 < r ∧ r < 1073741824 := ⟨hr, by omega⟩
    refine ⟨_, rfl, _, _, rfl, rfl, pz, _, _, rfl, rfl, _, rfl, iteDd (fun c => ?_) (fun _ => no)⟩
    refine ⟨_, rfl, _, _, rfl, rfl, ⟨by decide, by decide⟩, _, rfl, _, _, rfl, rfl, hr, _, rfl, _, _, rfl, rfl, ⟨by decide, by decide⟩, _, rfl, _, _, rfl, rfl, hrr, _, rfl, fun wd H3 hwd g3 => ⟨(by show 2 ≤ sizeLine; decide), fun t ht => ⟨szl (by simp), fun pb hpb => ?_⟩⟩⟩
    have gt := g3.trans (same_new ht (.tup [V.int (n1 / 8 % r), V.str wd]))
    have gp := same_new hpb (.lst [V.ref t])
    refine ⟨pb, [.ref t], [(n1 / 8 % r, wd)], rfl, (gb0.trans gt).trans gp, upd_same, .cons ⟨t, rfl, (Same.grow gp).seqT (SqT.of upd_same)⟩ .nil, by simp, fun m hm => ?_⟩
    rw [List.mem_singleton.mp hm]
    exact ⟨Int.emod_nonneg _ (by omega), Int.emod_lt_of_pos _ hr, hwd⟩
  rintro _ H3 ⟨pb, xb, B, rfl, g3, eb, hB, lB, mB⟩
  clear hpb0 gb0 eb0
  refine fun ds hds => fun de hde => ?_
  have hde' : H3 de = none := (same_new hds _).free hde
  have ned : ds ≠ de := ne_of_none upd_same hde
  have PI0 : PlI K H3 (upd (upd H3 ds (.dT [])) de (.dK [])) ds de g r 0 := ⟨(same_new hds (.dT [])).trans (same_new hde (.dK [])), [], [], [], [], (upd_ne ned).trans upd_same, upd_same, .nil, .nil, by simp, by simp, Nat.le_refl _, Nat.le_refl _, by simp, by simp⟩
  generalize upd (upd H3 ds (.dT [])) de (.dK []) = H4 at PI0 ⊢
  have g13 : Same H H3 := g1.trans g3
  have hS4 : SqL K H4 a (ns.map V.int) := (g13.trans PI0.same).seq hS
  refine ⟨_, rfl, a, _, rfl, .inl hS4, _, _, rfl, _, _, rfl, ⟨by decide, by decide, ?_, ?_⟩, ?_⟩
  · rw [List.length_map]
    show -(2 ^ 62 : Int) ≤ if (ns.length : Int) < 63 then (ns.length : Int) else 63
    split <;> omega
  · rw [List.length_map]
    show (if (ns.length : Int) < 63 then (ns.length : Int) else 63) < 2 ^ 62
    split <;> omega
  rw [List.length_map]
  have hturns : ((if (ns.length : Int) < 63 then (ns.length : Int) else 63) - 1).toNat ≤ 62 := by split <;> omega
  refine for_range (fun i σ H' => PlI K H3 H' ds de g r i ∧ ∃ x3 x9 x10 x11, σ = [some (.ref a), some (.int salt), some (.int most), x3, some (.str g), some (.int r), some (.ref pb), some (.ref ds), some (.ref de), x9, x10, x11, none]) ⟨PI0, _, _, _, _, rfl⟩ ?_ ?_
  · rintro i σ H5 hi ⟨hI, x3, x9, x10, x11, rfl⟩
    have hi62 : i < 62 := Nat.lt_of_lt_of_le hi hturns
    have hS5 : SqL K H5 a (ns.map V.int) := (g13.trans hI.same).seq hS
    refine ⟨fun v H' => H5 = H' ∧ ∃ n : Int, v = .int n, ⟨_, rfl, _, rfl, _, rfl, a, ns, _, salt, rfl, hS5, by omega, s0, s1, fun n => ⟨rfl, n, rfl⟩⟩, ?_⟩
    rintro _ _ ⟨rfl, n2, rfl⟩
    refine ⟨fun v H' => H5 = H' ∧ ∃ n : Int, v = .int n ∧ 0 ≤ n ∧ (0 < r → n < r), ⟨_, rfl, _, _, rfl, rfl, ⟨by decide, by decide⟩, _, rfl, _, _, rfl, _, _, rfl, rfl, ?_, rfl, _, rfl, ?_, ?_⟩, ?_⟩
    · split <;> omega
    · exact Int.emod_nonneg _ (by split <;> omega)
    · intro hr
      split <;> first | exact Int.emod_lt_of_pos _ hr | omega
    rintro _ _ ⟨rfl, ro, rfl, ro0, ro1⟩
    have stay : PlI K H3 H5 ds de g r (i + 1) := hI.mono (Same.refl _) (Nat.le_succ _)
    refine ⟨_, rfl, _, _, rfl, rfl, _, rfl, iteDd (fun hr => ?_) (fun hr => ?_)⟩
    rotate_left
    · exact ⟨_, rfl, _, _, rfl, rfl, _, rfl, iteDd (fun z => absurd z hr) (fun _ => ⟨stay, _, _, _, _, rfl⟩)⟩
    have hrr : 0 < r ∧ r < 1073741824 := ⟨hr, by omega⟩
    have hgl : (0 : Int) < g.length ∧ (g.length : Int) < 1073741824 := by omega
    have ro1 := ro1 hr
    refine ⟨_, rfl, _, _, rfl, rfl, pz, rfl, _, rfl, iteDd (fun c1 => ?_) (fun c1 => ?_)⟩
    · refine ⟨_, rfl, _, _, rfl, rfl, ⟨by decide, by decide⟩, _, rfl, _, _, rfl, rfl, hrr, _, rfl, fun wd H6 hwd g6 => ?_⟩
      have hI := hI.mono g6 (Nat.le_refl _)
      obtain ⟨j0, S, kvs, E', kve, j1, j2, j3, j4, j5, j6, j7, j8, j9, j10⟩ := hI
      refine ⟨_, rfl, _, rfl, de, _, rfl, .inl ⟨kve, Sum.inl ro, j2, rfl, szl' (by omega), rfl⟩, ?_⟩
      obtain ⟨E2, k1, k2⟩ := paired_put (R := EnM) (k := Sum.inl ro) (v := .str wd) (t := (ro, wd)) rfl j4
      refine ⟨⟨same_updN j0 hde', S, kvs, E2, _, (upd_ne ned).trans j1, upd_same, paired_mono (fun _ _ => EnS.gt (gt_upd j2 (fun _ z => nomatch z) (fun _ _ z => nomatch z) _)) j3, k1, j5, put_nd j6, by omega, Nat.le_trans (put_le _ _ _) (by omega), j9, fun m hm => ?_⟩, _, _, _, _, rfl⟩
      rcases k2 m hm with z | z
      · exact j10 m z
      · rw [z]; exact ⟨ro0, ro1, hwd⟩
    refine ⟨_, rfl, _, _, rfl, rfl, _, rfl, iteDd (fun _ => ?_) (fun z => absurd hr z)⟩
    obtain ⟨sg, hc, hm⟩ := at_mem (xs := cl g) (i := n2 / 4 / r % (g.length : Int)) (Int.emod_nonneg _ (by omega)) (by rw [cl_length]; exact Int.emod_lt_of_pos _ hgl.1)
    refine ⟨_, rfl, _, rfl, _, _, rfl, rfl, ⟨by decide, by decide⟩, _, rfl, _, _, rfl, rfl, hrr, _, rfl, g, rfl, szl (by omega), _, _, rfl, rfl, hgl.1, g, _, sg, rfl, rfl, szl (by omega), hc, ?_⟩
    refine ⟨fun v H' => H5 = H' ∧ ∃ n : Int, v = .int n, ⟨_, rfl, _, _, rfl, rfl, ⟨by decide, by decide⟩, _, rfl, _, _, rfl, rfl, hrr, _, rfl, g, rfl, szl (by omega), _, _, rfl, rfl, hgl, rfl, _, rfl⟩, ?_⟩
    rintro _ _ ⟨rfl, n3, rfl⟩
    refine ⟨_, rfl, _, rfl, _, _, rfl, rfl, hrr, _, rfl, fun wd H6 hwd g6 => ⟨_, rfl, _, rfl, _, _, rfl, rfl, hr, (by show 2 ≤ sizeLine; decide), fun t ht => ?_⟩⟩
    have gt := g6.trans (same_new ht (.tup [V.str wd, V.int (n3 % r)]))
    have et := upd_same (H := H6) (a := t) (o := .tup [V.str wd, V.int (n3 % r)])
    have hI := hI.mono gt (Nat.le_refl _)
    dsimp only at ht ⊢
    generalize upd H6 t (.tup [V.str wd, V.int (n3 % r)]) = H7 at hI et ⊢
    refine ⟨_, rfl, _, rfl, _, rfl, (by show 2 ≤ sizeLine; decide), fun kt hkt => ?_⟩
    have gk := same_new hkt (.tup [V.int ro, V.str ⟨#[sg]⟩])
    have ek := upd_same (H := H7) (a := kt) (o := .tup [V.int ro, V.str ⟨#[sg]⟩])
    have hI := hI.mono gk (Nat.le_refl _)
    have et := gk _ _ et
    dsimp only at hkt ⊢
    generalize upd H7 kt (.tup [V.int ro, V.str ⟨#[sg]⟩]) = H8 at hI et ek ⊢
    obtain ⟨j0, S, kvs, E', kve, j1, j2, j3, j4, j5, j6, j7, j8, j9, j10⟩ := hI
    refine ⟨ds, _, rfl, .inr ⟨kvs, [Sum.inl ro, Sum.inr ⟨#[sg]⟩], kt, j1, rfl, ek, szl' (by omega), rfl⟩, ?_⟩
    have gd : GT H8 (upd H8 ds (.dT (putK kvs [Sum.inl ro, Sum.inr ⟨#[sg]⟩] (.ref t)))) := gt_upd j1 (fun _ z => nomatch z) (fun _ _ z => nomatch z) _
    obtain ⟨S2, k1, k2⟩ := paired_put (R := EnS K H8) (k := [Sum.inl ro, Sum.inr ⟨#[sg]⟩]) (v := .ref t) (t := (ro, ⟨#[sg]⟩, wd, n3 % r)) ⟨rfl, t, rfl, SqT.of et⟩ j3
    refine ⟨⟨same_updN j0 hds, S2, _, E', kve, upd_same, (upd_ne ned.symm).trans j2, paired_mono (fun _ _ => EnS.gt gd) k1, j4, put_nd j5, j6, Nat.le_trans (put_le _ _ _) (by omega), by omega, fun x hx => ?_, j10⟩, _, _, _, _, rfl⟩
    rcases k2 x hx with z | z
    · exact j9 x z
    · rw [z]; exact ⟨ro0, ro1, ⟨sg, hm, rfl⟩, hwd, Int.emod_nonneg _ (by omega), Int.emod_lt_of_pos _ hr⟩
  rintro σ H5 ⟨hI, x3, x9, x10, x11, rfl⟩
  have hI := hI.mono (Same.refl _) hturns
  obtain ⟨j0, S, kvs, E', kve, j1, j2, j3, j4, j5, j6, j7, j8, j9, j10⟩ := hI
  have lS : S.length = kvs.length := j3.length
  have lE : E'.length = kve.length := j4.length
  refine ⟨_, rfl, ds, kvs, rfl, j1, fun o => ?_⟩
  have gd : GT H5 (upd H5 ds (.frz o (.dT kvs))) := gt_upd j1 (fun _ z => nomatch z) (fun _ _ z => nomatch z) _
  have e1 := upd_same (H := H5) (a := ds) (o := .frz o (.dT kvs))
  have e2 : upd H5 ds (.frz o (.dT kvs)) de = some (.dK kve) := (upd_ne ned.symm).trans j2
  have g5 : Same H3 (upd H5 ds (.frz o (.dT kvs))) := same_updN j0 hds
  have j3 := paired_mono (fun _ _ => EnS.gt gd) j3
  generalize upd H5 ds (.frz o (.dT kvs)) = H6 at e1 e2 g5 j3 ⊢
  refine comp_pairs (kvs := kvs) (fun i ys τ H' => Same H6 H' ∧ (∃ x y, τ = [x, y]) ∧ i ≤ kvs.length ∧ Paired (StV K H') (S.take i) ys) ⟨Same.refl _, ⟨_, _, rfl⟩, Nat.zero_le _, .nil⟩ (fun i ys τ H' z => z.1 _ _ e1) ?_ ?_
  · rintro i k y p b ys τ H' hkv ⟨g7, ⟨x0, y0, rfl⟩, hil, hP⟩ hp hb
    obtain ⟨t, ht, hk, b2, hy, hb2⟩ := paired_get j3 hkv
    have hk : k = keyT t := hk
    have hy : y = .ref b2 := hy
    subst hk hy
    have hil : i < kvs.length := (List.getElem?_eq_some_iff.mp hkv).1
    have gp := same_new hp (.tup [V.ref b, V.ref b2])
    have ep := upd_same (H := H') (a := p) (o := .tup [V.ref b, V.ref b2])
    have hb := gp _ _ hb
    have g7 := g7.trans gp
    have hP := paired_mono (fun _ _ => StV.mono (Same.grow gp)) hP
    generalize upd H' p (.tup [V.ref b, V.ref b2]) = H7 at gp ep hb g7 hP ⊢
    have hb2 := (Same.grow g7).seqT hb2
    have hb : SqT K H7 b [.int t.1, .str t.2.1] := SqT.of hb
    have hyl : ys.length ≤ 999 := by rw [← hP.length, List.length_take]; omega
    refine ⟨p, _, rfl, SqT.of ep, rfl, _, _, rfl, _, _, rfl, rfl, ?_⟩
    refine ⟨_, rfl, _, _, _, _, rfl, rfl, hb, rfl, _, rfl, _, _, _, _, rfl, rfl, hb, rfl, _, rfl, _, _, _, _, rfl, rfl, hb2, rfl, _, rfl, _, _, _, _, rfl, rfl, hb2, rfl, (by show 4 ≤ sizeLine; decide), fun p2 hp2 => ⟨szl' (by omega), g7.trans (same_new hp2 _), ⟨_, _, rfl⟩, hil, ?_⟩⟩
    rw [take_get ht]
    exact paired_append (paired_mono (fun _ _ => StV.mono (grow_new hp2 _)) hP) (.cons ⟨p2, rfl, SqT.of upd_same⟩ .nil)
  rintro xs τ H7 ⟨g7, _, _, hP⟩ ps hps
  rw [← lS, List.take_length] at hP
  have gs := same_new hps (.lst xs)
  have es := upd_same (H := H7) (a := ps) (o := .lst xs)
  have g8 := g7.trans gs
  have hP := paired_mono (fun _ _ => StV.mono (Same.grow gs)) hP
  generalize upd H7 ps (.lst xs) = H8 at es g8 hP ⊢
  have e2 := g8 _ _ e2
  have g38 : Same H3 H8 := g5.trans g8
  have npd : ps ≠ de := fun z => by rw [z, e2] at es; cases es
  refine ⟨_, rfl, _, rfl, _, rfl, _, rfl, _, rfl, de, kve, rfl, e2, fun o2 => ?_⟩
  have gd2 : GT H8 (upd H8 de (.frz o2 (.dK kve))) := gt_upd e2 (fun _ z => nomatch z) (fun _ _ z => nomatch z) _
  have e3 := upd_same (H := H8) (a := de) (o := .frz o2 (.dK kve))
  have es2 : upd H8 de (.frz o2 (.dK kve)) ps = some (.lst xs) := (upd_ne npd).trans es
  have hP := paired_mono (fun _ _ => StV.gt gd2) hP
  have g39 : Same H3 (upd H8 de (.frz o2 (.dK kve))) := same_updN g38 hde'
  generalize upd H8 de (.frz o2 (.dK kve)) = H9 at e3 es2 hP g39 ⊢
  refine comp_items (kvs := kve) (fun i ys τ H' => Same H9 H' ∧ (∃ x y, τ = [x, y]) ∧ i ≤ kve.length ∧ Paired (MkV K H') (E'.take i) ys) ⟨Same.refl _, ⟨_, _, rfl⟩, Nat.zero_le _, .nil⟩ (fun i ys τ H' z => z.1 _ _ e3) ?_ ?_
  · rintro i k y p ys τ H' hkv ⟨g10, ⟨x0, y0, rfl⟩, hil, hR⟩ hp
    obtain ⟨m, hm, hk⟩ := paired_get j4 hkv
    have hk : (k, y) = (Sum.inl m.1, V.str m.2) := hk
    injection hk with hk1 hk2
    subst hk1 hk2
    have hil : i < kve.length := (List.getElem?_eq_some_iff.mp hkv).1
    have gp := same_new hp (.tup [kV (Sum.inl m.1), V.str m.2])
    have ep := upd_same (H := H') (a := p) (o := .tup [kV (Sum.inl m.1), V.str m.2])
    have g10 := g10.trans gp
    have hR := paired_mono (fun _ _ => MkV.mono (Same.grow gp)) hR
    generalize upd H' p (.tup [kV (Sum.inl m.1), V.str m.2]) = H10 at ep g10 hR ⊢
    have hyl : ys.length ≤ 999 := by rw [← hR.length, List.length_take]; omega
    refine ⟨p, _, rfl, SqT.of ep, rfl, _, _, rfl, _, _, rfl, rfl, ?_⟩
    refine ⟨_, rfl, _, rfl, (by show 2 ≤ sizeLine; decide), fun p2 hp2 => ⟨szl' (by omega), g10.trans (same_new hp2 _), ⟨_, _, rfl⟩, hil, ?_⟩⟩
    rw [take_get hm]
    exact paired_append (paired_mono (fun _ _ => MkV.mono (grow_new hp2 _)) hR) (.cons ⟨p2, rfl, SqT.of upd_same⟩ .nil)
  rintro ye τ H10 ⟨g10, _, _, hR⟩ pe hpe
  rw [← lE, List.take_length] at hR
  have ge := same_new hpe (.lst ye)
  have ee := upd_same (H := H10) (a := pe) (o := .lst ye)
  have g11 := g10.trans ge
  have hR := paired_mono (fun _ _ => MkV.mono (Same.grow ge)) hR
  generalize upd H10 pe (.lst ye) = H11 at ee g11 hR ⊢
  refine ⟨(by show 5 ≤ sizeLine; decide), fun v hv => ?_⟩
  have gv := same_new hv (.tup [V.str g, V.int r, V.ref pb, V.ref ps, V.ref pe])
  have g12 := g11.trans gv
  have g3z := g39.trans g12
  have po := plain_po j3 j5
  have pn : (E'.map (·.1)).Nodup := by
    rw [paired_keys (f := fun m : Mk => (Sum.inl m.1 : Key)) (fun m kv h => by rw [h]) j4] at j6
    have e : (E'.map fun m : Mk => (Sum.inl m.1 : Key)) = (E'.map (·.1)).map Sum.inl := by rw [List.map_map]; rfl
    rw [e] at j6
    exact List.Pairwise.of_map _ (fun a b z y => z (by rw [y])) j6
  exact q _ _ ⟨g, r, B, S, E'⟩ pb ps pe ⟨g13.trans g3z, ⟨v, xb, xs, ye, rfl, SqT.of upd_same, SqL.of (g3z _ _ eb), SqL.of (g12 _ _ es2), SqL.of (gv _ _ ee), paired_mono (fun _ _ => MkV.mono (Same.grow g3z)) hB, paired_mono (fun _ _ => StV.mono (Same.grow g12)) hP, paired_mono (fun _ _ => MkV.mono (Same.grow gv)) hR⟩,
    ⟨Nat.le_trans lB (by decide), by show S.length ≤ 62; omega, by show E'.length ≤ 62; omega, mB, j9, j10, nodup_one lB, List.Pairwise.of_map _ (fun a b z y => z (by rw [y])) po, List.Pairwise.of_map _ (fun a b z y => z (by rw [y])) pn, fun _ => lB, fun _ => po, fun _ => pn⟩, hr0, hr1, hg1, hg2, hg3, hg4⟩
theorem sc_law_is_scribe : FnScope ["_law_found", "_law_k", "_law_told", "_law_one", "_law_kind"] ["_law_found"] (defScope s_law_is_scribe) := ⟨rfl, rfl, rfl, by decide +kernel, rfl, by decide +kernel, by decide +kernel⟩
theorem ok_law_is_scribe (B : Bi mg) {c_NotPlain : Addr} (XB : Xb K mg c_NotPlain) (C_law_whole : Cal P w K mg base "_law_whole" ["_law_found"] 1 (spWholeI K)) {f : Addr} {fd : FuncData} (F : Fun K "_law_is_scribe" "_law_is_scribe" s_law_is_scribe f fd) : FnOk P w K mg base CX0 2 f fd ["_law_found"] (spIsScr K) := by
  refine F.ok sc_law_is_scribe (fun vs H Q E h => ?_) (fun cdv A outer s H vs Q E hr h => ?_)
  · obtain ⟨v, s, pb, ps, pe, rfl, _⟩ := h; rfl
  obtain ⟨v, s, pb, ps, pe, rfl, hV, q⟩ := h
  refine ⟨_, (pss_cons (ps_if (PW.pt (pw_or (pt_not (pt_val (pe_callB (kCall (K := K) rIsD call_isinstD) (by rfl) B.isinstance bt_isinstance (pa_cons (pv 0) (pa_cons (pe_ty (by rfl) B.tuple bt_tuple) pa_nil))))) (pw_or (pt_cmpR op_ne (pe_callB (kLen (K := K)) (by rfl) B.len bt_len (pa_cons (pv 0) pa_nil)) pe_int (nomark _)) (pw_or (pt_not (pt_val (pe_callB (kCall (K := K) rIs call_isinst) (by rfl) B.isinstance bt_isinstance (pa_cons (pe_ix (kIx (K := K) rIxT ix_tup) (pv 0) pe_int (by intro _ _; rfl)) (pa_cons (pe_ty (by rfl) B.str bt_str) pa_nil))))) (pw_or1 (pt_not (pt_val (pe_fn C_law_whole hr (by decide : 1 ≤ 1) (by rfl) (pa_cons (pe_ix (kIx (K := K) rIxT ix_tup) (pv 0) pe_int (by intro _ _; rfl)) pa_nil))))))))) (pss_one (ps_ret pe_bl)) pss_nil)
      (pss_cons (ps_for PassesOwn.never (by rfl) (pi_range2 (by rfl) B.range (pa_cons pe_int (pa_cons pe_int pa_nil))) (pg_name (i := 1) sc_law_is_scribe.nd rfl (Or.inl rfl)) (pss_cons (ps_if (pt_not (pt_val (pe_callB (kCall (K := K) rIsD call_isinstD) (by rfl) B.isinstance bt_isinstance (pa_cons (pe_ix (kIx (K := K) rIxT ix_tup) (pv 0) (pv 1) (by intro _ _; rfl)) (pa_cons (pe_ty (by rfl) B.list bt_list) pa_nil))))) (pss_one (ps_ret pe_bl)) pss_nil)
      (pss_one (ps_for PassesOwn.never (by rfl) (kPI (K := K) (fun k => iList k _) (pi_list (pe_ix (kIx (K := K) rIxT ix_tup) (pv 0) (pv 1) (by intro _ _; rfl)))) (pg_name (i := 2) sc_law_is_scribe.nd rfl (Or.inl rfl)) (pss_cons (ps_if (PW.pt (pw_or (pt_not (pt_val (pe_callB (kCall (K := K) rIsD call_isinstD) (by rfl) B.isinstance bt_isinstance (pa_cons (pv 2) (pa_cons (pe_ty (by rfl) B.tuple bt_tuple) pa_nil))))) (pw_or1 (pt_cmpR op_ne (pe_callB (kLen (K := K)) (by rfl) B.len bt_len (pa_cons (pv 2) pa_nil)) (pe_ix (kIx (K := K) rIxL ix_list) (pe_lst (pa_cons pe_int (pa_cons pe_int (pa_cons pe_int pa_nil)))) (pe_op op_sub (pv 1) pe_int) (by intro _ _; rfl)) (nomark _))))) (pss_one (ps_ret pe_bl)) pss_nil)
      (pss_one (ps_for PassesOwn.never (by rfl) (kPI (K := K) (fun k => iZip k _) (pi_zip (by rfl) B.zip (pa_cons (pv 2) (pa_cons (pe_ix (kIx (K := K) rIxL ix_list) (pe_lst (pa_cons (pe_lst (pa_cons pe_int (pa_cons pe_int pa_nil))) (pa_cons (pe_lst (pa_cons pe_int (pa_cons pe_int (pa_cons pe_int (pa_cons pe_int pa_nil))))) (pa_cons (pe_lst (pa_cons pe_int (pa_cons pe_int pa_nil))) pa_nil)))) (pe_op op_sub (pv 1) pe_int) (by intro _ _; rfl)) pa_nil)))) (kPG (K := K) (fun k => gTup k 2 _) (pg_tup (n := 2) (by rfl) (pgs_cons (pg_name (i := 3) sc_law_is_scribe.nd rfl (Or.inl rfl)) (pgs_cons (pg_name (i := 4) sc_law_is_scribe.nd rfl (Or.inl rfl)) pgs_nil)))) (pss_one (ps_if (PW.pt (pw_or (PW.pt (pw_and (pt_cmpR op_eq (pv 4) pe_int (nomark _)) (pw_and1 (pt_not (pt_val (pe_fn C_law_whole hr (by decide : 1 ≤ 1) (by rfl) (pa_cons (pv 3) pa_nil))))))) (pw_or1 (PW.pt (pw_and (pt_cmpR op_eq (pv 4) pe_int (nomark _)) (pw_and1 (pt_not (pt_val (pe_callB (kCall (K := K) rIs call_isinst) (by rfl) B.isinstance bt_isinstance (pa_cons (pv 3) (pa_cons (pe_ty (by rfl) B.str bt_str) pa_nil))))))))))) (pss_one (ps_ret pe_bl)) pss_nil)))))))))
      (pss_one (ps_ret pe_bl)))), ?_⟩
  obtain ⟨a, xb, xs, xe, ev, h1, h2, h3, h4, h5, h6, h7⟩ := id hV
  subst ev
  refine ⟨_, rfl, _, dScr s, "tuple", rfl, hV.rep, .inl rfl, _, rfl, iteF ?_⟩
  refine ⟨_, rfl, a, _, rfl, .inr h1, rfl, _, rfl, iteNd (fun c => absurd rfl c) (fun _ => ?_)⟩
  refine ⟨_, rfl, _, _, _, _, rfl, rfl, h1, rfl, _, "str", _, _, rfl, TyOf.str _, is_str, _, rfl, iteF ?_⟩
  refine ⟨_, rfl, _, _, _, _, rfl, rfl, h1, rfl, s.rooms, rfl, _, rfl, iteF ?_⟩
  refine ⟨_, _, rfl, ⟨by decide, by decide, by decide, by decide⟩, ?_⟩
  refine for_range (fun i σ H' => Same H H' ∧ ∃ x1 x2 x3 x4, σ = [some (.ref a), x1, x2, x3, x4]) ⟨Same.refl _, _, _, _, _, rfl⟩ ?_ ?_
  · rintro i σ H1 hi ⟨g1, x1, x2, x3, x4, rfl⟩
    have hi3 : i < 3 := hi
    obtain ⟨p, cs, hat, hn2, hrow, hz⟩ : ∃ p cs, atI [V.str s.signs, V.int s.rooms, V.ref pb, V.ref ps, V.ref pe] (2 + (i : Int)) = some (.ref p) ∧ atI [V.int 2, V.int 4, V.int 2] (2 + (i : Int) - 2) = some (.int ((List.length cs : Nat) : Int)) ∧ RowOk K H1 p cs ∧
        ∀ (p1 p2 p3 : Addr) (Hx : Hp), Hx p1 = some (.lst [V.int 0, V.int 1]) → Hx p2 = some (.lst [V.int 0, V.int 1, V.int 1, V.int 0]) → Hx p3 = some (.lst [V.int 0, V.int 1]) → ∃ pj, atI [V.ref p1, V.ref p2, V.ref p3] (2 + (i : Int) - 2) = some (.ref pj) ∧ Hx pj = some (.lst (cs.map V.int)) := by
      have hc : i = 0 ∨ i = 1 ∨ i = 2 := by omega
      rcases hc with rfl | rfl | rfl
      · exact ⟨pb, [0, 1], rfl, rfl, RowOk.mk (g1.seq h2) (paired_mono (fun _ _ => MkV.mono (Same.grow g1)) h5), fun p1 p2 p3 Hx e1 e2 e3 => ⟨p1, rfl, e1⟩⟩
      · exact ⟨ps, [0, 1, 1, 0], rfl, rfl, RowOk.st (g1.seq h3) (paired_mono (fun _ _ => StV.mono (Same.grow g1)) h6), fun p1 p2 p3 Hx e1 e2 e3 => ⟨p2, rfl, e2⟩⟩
      · exact ⟨pe, [0, 1], rfl, rfl, RowOk.mk (g1.seq h4) (paired_mono (fun _ _ => MkV.mono (Same.grow g1)) h7), fun p1 p2 p3 Hx e1 e2 e3 => ⟨p3, rfl, e3⟩⟩
    obtain ⟨X, D', r1, r2, r3⟩ := hrow
    refine ⟨_, rfl, _, rfl, _, _, _, _, rfl, rfl, Same.seqT g1 h1, hat, _, .lst D', "list", rfl, r2, .inr (.inr (.inr (.inr rfl))), _, rfl, iteF ?_⟩
    refine ⟨_, rfl, _, rfl, _, _, _, _, rfl, rfl, Same.seqT g1 h1, hat, p, rfl, ⟨X, r1⟩, ?_⟩
    refine for_list (xs := X) (fun j σ H' => Same H1 H' ∧ ∃ x2 x3 x4, σ = [some (.ref a), some (.int (2 + (i : Int))), x2, x3, x4]) ⟨Same.refl _, _, _, _, rfl⟩ (fun j σ H' _ z => z.1.seq r1) ?_ ?_
    · rintro j x σ H2 hx ⟨g2, x2, x3, x4, rfl⟩
      obtain ⟨b, vs, d, rfl, hb, hk, hd, ht⟩ := r3 x (List.mem_of_getElem? hx)
      have hb2 := (Same.grow g2).seqT hb
      have hlen : vs.length = cs.length := hk.length
      refine ⟨_, rfl, _, d, "tuple", rfl, Rep.mono g2 d _ hd, .inl rfl, _, rfl, ?_⟩
      rw [ht]
      refine iteF ?_
      refine ⟨_, rfl, b, _, rfl, .inr hb2, szl (by simp), fun p2 hp2 => ⟨_, rfl, _, _, rfl, rfl, _, _, _, _, rfl, rfl, SqL.of upd_same, hn2, rfl, _, rfl, iteNd (fun c => absurd (by rw [hlen]) c) (fun _ => ?_)⟩⟩
      have gp2 := same_new hp2 (.lst [V.int 2, V.int 4, V.int 2])
      have g3 := g2.trans gp2
      have hb3 := (Same.grow gp2).seqT hb2
      generalize upd H2 p2 (.lst [V.int 2, V.int 4, V.int 2]) = H3 at g3 hb3 ⊢
      refine ⟨_, rfl, szl (by simp), fun q1 hq1 => ⟨szl (by simp), fun q2 hq2 => ⟨szl (by simp), fun q3 hq3 => ⟨szl (by simp), fun q4 hq4 => ?_⟩⟩⟩⟩
      have k1 := same_new hq1 (.lst [V.int 0, V.int 1])
      have k2 := same_new hq2 (.lst [V.int 0, V.int 1, V.int 1, V.int 0])
      have k3 := same_new hq3 (.lst [V.int 0, V.int 1])
      have k4 := same_new hq4 (.lst [V.ref q1, V.ref q2, V.ref q3])
      obtain ⟨pj, hatj, epj⟩ := hz q1 q2 q3 _ (k4 _ _ (k3 _ _ (k2 _ _ upd_same))) (k4 _ _ (k3 _ _ upd_same)) (k4 _ _ upd_same)
      have g4 := g3.trans (((k1.trans k2).trans k3).trans k4)
      have hb4 := (Same.grow (((k1.trans k2).trans k3).trans k4)).seqT hb3
      refine ⟨_, rfl, _, _, rfl, rfl, _, _, _, _, rfl, rfl, SqL.of upd_same, hatj, b, pj, rfl, ⟨_, hb4⟩, ⟨_, SqL.of epj⟩, ?_⟩
      generalize upd (upd (upd (upd H3 q1 (.lst [V.int 0, V.int 1])) q2 (.lst [V.int 0, V.int 1, V.int 1, V.int 0])) q3 (.lst [V.int 0, V.int 1])) q4 (.lst [V.ref q1, V.ref q2, V.ref q3]) = H4 at epj g4 hb4 ⊢
      refine for_zip (t := b) (l := pj) (xs := vs) (ys := cs.map V.int) (by rw [List.length_map]; omega) (fun m σ H' => Same H4 H' ∧ ∃ x3 x4, σ = [some (.ref a), some (.int (2 + (i : Int))), some (.ref b), x3, x4]) ⟨Same.refl _, _, _, rfl⟩ (fun m σ H' _ z => ⟨(Same.grow z.1).seqT hb4, SqL.of (z.1 _ _ epj)⟩) ?_ ?_
      · rintro m x y q0 σ H5 hx hy ⟨g5, x3, x4, rfl⟩ hq0
        rw [List.getElem?_map] at hy
        obtain ⟨c, hc, rfl⟩ := Option.map_eq_some_iff.mp hy
        have gq := same_new hq0 (.tup [x, V.int c])
        have eq0 := upd_same (H := H5) (a := q0) (o := .tup [x, V.int c])
        have g6 := g5.trans gq
        generalize upd H5 q0 (.tup [x, V.int c]) = H6 at eq0 g6 ⊢
        refine ⟨q0, _, rfl, SqT.of eq0, rfl, _, _, rfl, _, _, rfl, rfl, ?_⟩
        rcases paired_two hk hx hc with ⟨rfl, n, rfl⟩ | ⟨rfl, w, rfl⟩
        · refine ⟨_, rfl, rfl, _, rfl, iteDT rfl ⟨_, rfl, n, rfl, _, rfl, iteF ?_⟩⟩
          exact ⟨_, rfl, rfl, _, rfl, iteD (fun z => by cases z) ⟨g6, _, _, rfl⟩⟩
        · refine ⟨_, rfl, rfl, _, rfl, iteD (fun z => by cases z) (iteF ?_)⟩
          exact ⟨_, rfl, rfl, _, rfl, iteDT rfl ⟨_, rfl, _, "str", _, _, rfl, TyOf.str _, is_str, _, rfl, g6, _, _, rfl⟩⟩
      · rintro σ H5 ⟨g5, x3, x4, rfl⟩
        exact ⟨g4.trans g5, _, _, _, rfl⟩
    rintro σ H2 ⟨g2, x2, x3, x4, rfl⟩
    exact ⟨g1.trans g2, _, _, _, _, rfl⟩
  rintro σ H1 ⟨g1, x1, x2, x3, x4, rfl⟩
  exact q _ g1
theorem sc_law_run : FnScope ["_law_scribe", "_law_text_here", "_law_signs_here", "_law_rooms", "_law_begins", "_law_steps", "_law_ends", "_law_room", "_law_word_here", "_law_sign", "_law_led", "_law_last", "_law_more"] ["_law_scribe", "_law_text_here"] (defScope s_law_run) := ⟨rfl, rfl, rfl, by decide +kernel, rfl, by decide +kernel, by decide +kernel⟩
theorem ok_law_run (B : Bi mg) {c_NotPlain : Addr} (XB : Xb K mg c_NotPlain)  {f : Addr} {fd : FuncData} (F : Fun K "_law_run" "_law_run" s_law_run f fd) : FnOk P w K mg base CX0 1 f fd ["_law_scribe", "_law_text_here"] (spRun K) := by
  refine F.ok sc_law_run (fun vs H Q E h => ?_) (fun cdv A outer s H vs Q E hr h => ?_)
  · obtain ⟨v, s, pb, ps, pe, x, L, rfl, _⟩ := h; rfl
  obtain ⟨v, s, pb, ps, pe, x, L, rfl, hV, okR, wl, hL, hx, q⟩ := h
  refine ⟨_, (pss_cons (ps_asg (pv 0) (kPG (K := K) (fun k => gTup k 5 _) (pg_tup (n := 5) (by rfl) (pgs_cons (pg_name (i := 2) sc_law_run.nd rfl (Or.inl rfl)) (pgs_cons (pg_name (i := 3) sc_law_run.nd rfl (Or.inl rfl)) (pgs_cons (pg_name (i := 4) sc_law_run.nd rfl (Or.inl rfl)) (pgs_cons (pg_name (i := 5) sc_law_run.nd rfl (Or.inl rfl)) (pgs_cons (pg_name (i := 6) sc_law_run.nd rfl (Or.inl rfl)) pgs_nil))))))))
      (pss_cons (ps_if (pt_cmpR (kOp (K := K) rEqD (op_eqD hr.units)) (pv 4) (pe_lst pa_nil) (nomark _)) (pss_one (ps_ret pe_non)) pss_nil)
      (pss_cons (ps_asg (pe_ix (kIx (K := K) rIxL ix_list) (pv 4) pe_int (by intro _ _; rfl)) (kPG (K := K) (fun k => gTup k 2 _) (pg_tup (n := 2) (by rfl) (pgs_cons (pg_name (i := 7) sc_law_run.nd rfl (Or.inr rfl)) (pgs_cons (pg_name (i := 8) sc_law_run.nd rfl (Or.inl rfl)) pgs_nil)))))
      (pss_cons (ps_for PassesOwn.never (by rfl) (pi_str (pv 1)) (pg_name (i := 9) sc_law_run.nd rfl (Or.inr rfl)) (pss_cons (ps_compset (i := 10) sc_law_run.nd rfl (Or.inl rfl) (by rfl) (by rfl) (blk_mk (N' := ["_law_step", "_law_room", "_law_sign"]) (js := [none, some 7, some 9]) rfl (by decide +kernel) rfl (by decide +kernel) rfl rfl) (kPI (K := K) (fun k => iList k _) (pi_list (pv 5))) (fun _ _ _ _ _ => (pg_name (i := 0) (show List.Nodup (["_law_step", "_law_room", "_law_sign"] : List Str) by decide +kernel) rfl (Or.inl rfl))) (fun _ _ _ _ _ => (pf_one (PW.pt (pw_and (pt_cmpR op_eq (pe_ix (kIx (K := K) rIxT ix_tup) (pv 0) pe_int (by intro _ _; rfl)) (pv 1) (nomark _)) (pw_and1 (pt_cmpR op_eq (pe_ix (kIx (K := K) rIxT ix_tup) (pv 0) pe_int (by intro _ _; rfl)) (pv 2) (nomark _))))))) (fun _ _ _ _ _ => (pv 0)))
      (pss_cons (ps_if (pt_cmpR (kOp (K := K) rEqD (op_eqD hr.units)) (pv 10) (pe_lst pa_nil) (nomark _)) (pss_one (ps_ret pe_non)) pss_nil)
      (pss_cons (ps_set (i := 8) sc_law_run.nd rfl (Or.inl rfl) (pe_op op_add_str (pv 8) (pe_ix (kIx (K := K) rIxT ix_tup) (pe_ix (kIx (K := K) rIxL ix_list) (pv 10) pe_int (by intro _ _; rfl)) pe_int (by intro _ _; rfl))))
      (pss_one (ps_set (i := 7) sc_law_run.nd rfl (Or.inr rfl) (pe_ix (kIx (K := K) rIxT ix_tup) (pe_ix (kIx (K := K) rIxL ix_list) (pv 10) pe_int (by intro _ _; rfl)) pe_int (by intro _ _; rfl))))))))
      (pss_cons (ps_for PassesOwn.never (by rfl) (kPI (K := K) (fun k => iList k _) (pi_list (pv 6))) (kPG (K := K) (fun k => gTup k 2 _) (pg_tup (n := 2) (by rfl) (pgs_cons (pg_name (i := 11) sc_law_run.nd rfl (Or.inl rfl)) (pgs_cons (pg_name (i := 12) sc_law_run.nd rfl (Or.inl rfl)) pgs_nil)))) (pss_one (ps_if (pt_cmpR op_eq (pv 11) (pv 7) (nomark _)) (pss_one (ps_ret (pe_op op_add_str (pv 8) (pv 12)))) pss_nil)))
      (pss_one (ps_ret pe_non))))))), ?_⟩
  obtain ⟨av, xb, xs, xe, rfl, h1, h2, h3, h4, h5, h6, h7⟩ := hV
  have hls := okR.ls
  have hle := okR.le
  refine ⟨_, rfl, av, _, rfl, h1, rfl, _, _, rfl, _, _, rfl, _, _, rfl, _, _, rfl, _, _, rfl, rfl, ?_⟩
  refine ⟨_, rfl, szl (by simp), fun l hl => ?_⟩
  have gl := same_new hl (.lst [])
  refine ⟨.lst (s.begins.map dMk), .lst [], rep_lst (gl.seq h2) (notIn_mk (m := (0, "")) (paired_mono (fun _ _ => MkV.mono (Same.grow gl)) h5)), rep_lst (SqL.of upd_same) .nil, ?_, _, rfl, ?_⟩
  · have := deeps_map dMk 1 deep_dMk s.begins
    simp only [deep]; omega
  generalize upd H l (.lst []) = H2 at gl ⊢
  cases hb : s.begins with
  | nil =>
    have hq := q _ gl
    unfold runS at hq
    rw [hb] at hq
    exact iteT hq
  | cons m0 M0 =>
  refine iteF ?_
  have hm0 : s.begins[0]? = some m0 := by rw [hb]; rfl
  have hrun : runS s x = (runGo s.steps (cl x) m0.1 m0.2).bind (endW s.ends) := by unfold runS; rw [hb]
  obtain ⟨vb, hvb, bb, rfl, hbb⟩ := paired_getL h5 hm0
  have lm0 := wl.wb m0 (List.mem_of_getElem? hm0)
  refine ⟨_, rfl, pb, xb, _, _, rfl, rfl, gl.seq h2, atI_nat hvb, bb, _, rfl, Same.seqT gl hbb, rfl, _, _, rfl, _, _, rfl, rfl, ?_⟩
  refine ⟨_, rfl, _, rfl, ?_⟩
  have hxl : (cl x).length = x.length := cl_length x
  refine for_str (fun i σ H' => i ≤ x.length ∧ Same H H' ∧ ∃ r w x9 x10, runS s x = (runGo s.steps ((cl x).drop i) r w).bind (endW s.ends) ∧ w.length ≤ L * (i + 1) ∧ σ = [some (.ref av), some (.str x), some (.str s.signs), some (.int s.rooms), some (.ref pb), some (.ref ps), some (.ref pe), some (.int r), some (.str w), x9, x10, none, none])
    ⟨Nat.zero_le _, gl, m0.1, m0.2, none, none, hrun, by omega, rfl⟩ ?_ ?_
  · rintro i c σ H3 hc ⟨hi, g3, r, w, x9, x10, hr, hw, rfl⟩
    have hc : (cl x)[i]? = some c := hc
    have hil : i < x.length := by rw [← hxl]; exact (List.getElem?_eq_some_iff.mp hc).1
    have hdr : (cl x).drop i = c :: (cl x).drop (i + 1) := List.drop_eq_getElem?_toList_append.trans (by rw [hc]; rfl)
    rw [hdr, go_cons] at hr
    refine ⟨_, rfl, ps, rfl, ⟨xs, g3.seq h3⟩, ?_⟩
    refine comp_list (xs := xs) (fun n ys τ H' => H3 = H' ∧ (∃ y, τ = [y, some (.int r), some (.str ⟨#[c]⟩)]) ∧ n ≤ xs.length ∧ ys.length ≤ n ∧ Paired (StV K H3) ((s.steps.take n).filter (stP r c)) ys) ⟨rfl, ⟨_, rfl⟩, Nat.zero_le _, Nat.zero_le _, .nil⟩ (fun n ys τ H' z => z.1 ▸ g3.seq h3) ?_ ?_
    · rintro n y ys τ _ hy ⟨rfl, ⟨y0, rfl⟩, hn, hyl, hP⟩
      obtain ⟨t, ht, b, rfl, hb2⟩ := paired_get h6 hy
      have hnl : n < xs.length := (List.getElem?_eq_some_iff.mp hy).1
      have hll : s.steps.length = xs.length := h6.length
      have hb3 := (Same.grow g3).seqT hb2
      refine ⟨_, rfl, b, _, _, _, rfl, rfl, hb3, rfl, _, rfl, rfl, _, rfl, iteDd (fun c1 => ?_) (fun c1 => ?_)⟩
      · refine ⟨_, rfl, b, _, _, _, rfl, rfl, hb3, rfl, _, rfl, rfl, _, rfl, iteDd (fun c2 => ?_) (fun c2 => ?_)⟩
        · injection c1 with c1
          injection c2 with c2
          refine ⟨_, rfl, szl' (by omega), rfl, ⟨_, rfl⟩, hnl, by rw [List.length_append, List.length_singleton]; omega, ?_⟩
          rw [take_get ht, filter_snoc, if_pos (stP_iff.mpr ⟨c1, c2⟩)]
          exact paired_append hP (.cons ⟨b, rfl, hb3⟩ .nil)
        · refine ⟨rfl, ⟨_, rfl⟩, hnl, by omega, ?_⟩
          rw [take_get ht, filter_snoc, if_neg (fun z => c2 (by rw [(stP_iff.mp z).2])), List.append_nil]
          exact hP
      · refine ⟨rfl, ⟨_, rfl⟩, hnl, by omega, ?_⟩
        rw [take_get ht, filter_snoc, if_neg (fun z => c1 (by rw [(stP_iff.mp z).1])), List.append_nil]
        exact hP
    rintro zs τ _ ⟨rfl, _, _, hzl, hP⟩ lo hlo
    rw [← h6.length, List.take_length] at hP
    have ko := same_new hlo (.lst zs)
    have eo := upd_same (H := H3) (a := lo) (o := .lst zs)
    have g4 := g3.trans ko
    have hP := paired_mono (fun _ _ => StV.mono (Same.grow ko)) hP
    generalize upd H3 lo (.lst zs) = H4 at eo g4 hP ⊢
    refine ⟨_, rfl, szl (by simp), fun l2 hl2 => ?_⟩
    have gl2 := same_new hl2 (.lst [])
    have hP := paired_mono (fun _ _ => StV.mono (Same.grow gl2)) hP
    have e1 := gl2 _ _ eo
    refine ⟨.lst ((s.steps.filter (stP r c)).map dSt), .lst [], rep_lst (SqL.of e1) (reps_st hP), rep_lst (SqL.of upd_same) .nil, ?_, _, rfl, ?_⟩
    · have := deeps_map dSt 1 deep_dSt (s.steps.filter (stP r c))
      simp only [deep]; omega
    have g5 := g4.trans gl2
    generalize upd H4 l2 (.lst []) = H5 at g5 e1 hP ⊢
    rw [← List.head?_filter] at hr
    cases hF : s.steps.filter (stP r c) with
    | nil =>
      rw [hF] at hr
      have hq := q _ g5
      rw [hr] at hq
      exact iteT hq
    | cons t F0 =>
    rw [hF] at hP hr
    obtain ⟨vt, hvt, bt, rfl, hbt⟩ := paired_getL (i := 0) hP rfl
    have htm : t ∈ s.steps := (List.mem_filter.mp (by rw [hF]; exact List.mem_cons_self ..)).1
    have tl := wl.ws t htm
    have hw2 : L * (i + 1) ≤ L * 50 := Nat.mul_le_mul_left L (by omega)
    refine iteF ?_
    refine ⟨_, rfl, _, rfl, lo, zs, _, _, rfl, rfl, SqL.of e1, atI_nat hvt, bt, _, _, _, rfl, rfl, hbt, rfl, _, _, rfl, rfl, szl (by omega), ?_⟩
    refine ⟨_, rfl, lo, zs, _, _, rfl, rfl, SqL.of e1, atI_nat hvt, bt, _, _, _, rfl, rfl, hbt, rfl, ?_⟩
    exact ⟨hil, g5, _, _, _, _, hr, by rw [len_app, Nat.mul_succ]; omega, rfl⟩
  rintro σ H3 ⟨_, g3, r, w, x9, x10, hr, hw, rfl⟩
  have hr : runS s x = (runGo s.steps ((cl x).drop (cl x).length) r w).bind (endW s.ends) := hr
  have hw : w.length ≤ L * ((cl x).length + 1) := hw
  have hw2 : L * ((cl x).length + 1) ≤ L * 51 := Nat.mul_le_mul_left L (by omega)
  rw [List.drop_length] at hr
  refine ⟨_, rfl, pe, rfl, ⟨xe, g3.seq h4⟩, ?_⟩
  refine for_list (xs := xe) (fun n σ H' => H3 = H' ∧ n ≤ xe.length ∧ (∃ x11 x12, σ = [some (.ref av), some (.str x), some (.str s.signs), some (.int s.rooms), some (.ref pb), some (.ref ps), some (.ref pe), some (.int r), some (.str w), x9, x10, x11, x12]) ∧ s.ends.find? (fun m => decide (m.1 = r)) = (s.ends.drop n).find? fun m => decide (m.1 = r))
    ⟨rfl, Nat.zero_le _, ⟨_, _, rfl⟩, rfl⟩ (fun n σ H' _ z => z.1 ▸ g3.seq h4) ?_ ?_
  · rintro n y σ _ hy ⟨rfl, hn, ⟨x11, x12, rfl⟩, hf⟩
    obtain ⟨m, hm, b, rfl, hb2⟩ := paired_get h7 hy
    have hnl : n < xe.length := (List.getElem?_eq_some_iff.mp hy).1
    have ml := wl.we m (List.mem_of_getElem? hm)
    have hdm : s.ends.drop n = m :: s.ends.drop (n + 1) := List.drop_eq_getElem?_toList_append.trans (by rw [hm]; rfl)
    rw [hdm, List.find?_cons] at hf
    refine ⟨b, _, rfl, Same.seqT g3 hb2, rfl, _, _, rfl, _, _, rfl, rfl, ?_⟩
    refine ⟨_, rfl, _, rfl, rfl, _, rfl, iteDd (fun c1 => ?_) (fun c1 => ?_)⟩
    · injection c1 with c1
      rw [decide_eq_true c1] at hf
      have e : runS s x = some (w ++ m.2) := by
        rw [hr]
        show (s.ends.find? fun m => decide (m.1 = r)).map _ = _
        rw [hf]; rfl
      have hq := q _ g3
      rw [e] at hq
      exact ⟨_, rfl, _, rfl, _, _, rfl, rfl, szl (by omega), hq⟩
    · rw [decide_eq_false (fun z => c1 (by rw [z]))] at hf
      exact ⟨rfl, hnl, ⟨_, _, rfl⟩, hf⟩
  rintro σ _ ⟨rfl, _, ⟨x11, x12, rfl⟩, hf⟩
  rw [← h7.length, List.drop_length] at hf
  have e : runS s x = none := by
    rw [hr]
    show (s.ends.find? fun m => decide (m.1 = r)).map _ = _
    rw [hf]; rfl
  have hq := q _ g3
  rw [e] at hq
  exact hq
theorem sc_law_text : FnScope ["_law_script", "_law_signs_here", "_law_most", "_law_rest_here", "_law_text_here", "_law_size", "_law_k"] ["_law_script", "_law_signs_here", "_law_most"] (defScope s_law_text) := ⟨rfl, rfl, rfl, by decide +kernel, rfl, by decide +kernel, by decide +kernel⟩
theorem ok_law_text (B : Bi mg) {c_NotPlain : Addr} (XB : Xb K mg c_NotPlain) (C_law_mixed : Cal P w K mg base "_law_mixed" ["_law_cell", "_law_k"] 1 (spMixed)) (C_law_cell_at : Cal P w K mg base "_law_cell_at" ["_law_script", "_law_k"] 1 (spCell K)) {f : Addr} {fd : FuncData} (F : Fun K "_law_text" "_law_text" s_law_text f fd) : FnOk P w K mg base CX0 2 f fd ["_law_script", "_law_signs_here", "_law_most"] (spText5 K) := by
  refine F.ok sc_law_text (fun vs H Q E h => ?_) (fun cdv A outer s H vs Q E hr h => ?_)
  · obtain ⟨a, ns, g, n, rfl, _⟩ := h; rfl
  obtain ⟨a, ns, g, n, rfl, hS, g1, g2, n0, n1, q⟩ := h
  refine ⟨_, (pss_cons (ps_set (i := 3) sc_law_text.nd rfl (Or.inl rfl) (pe_abs (pe_op op_add (pe_op op_mul (pe_fn C_law_mixed hr (by decide : 1 ≤ 1) (by rfl) (pa_cons (pe_fn C_law_cell_at hr (by decide : 1 ≤ 1) (by rfl) (pa_cons (pv 0) (pa_cons pe_int pa_nil))) (pa_cons pe_int pa_nil))) pe_int) (pe_fn C_law_mixed hr (by decide : 1 ≤ 1) (by rfl) (pa_cons (pe_fn C_law_cell_at hr (by decide : 1 ≤ 1) (by rfl) (pa_cons (pv 0) (pa_cons pe_int pa_nil))) (pa_cons pe_int pa_nil))))))
      (pss_mid (ps_if (pt_cmpR op_eq (pe_op op_mod (pe_fn C_law_cell_at hr (by decide : 1 ≤ 1) (by rfl) (pa_cons (pv 0) (pa_cons pe_int pa_nil))) pe_int) pe_int (nomark _)) (pss_one (ps_set (i := 3) sc_law_text.nd rfl (Or.inl rfl) (pe_abs (pe_op op_shr (pe_fn C_law_cell_at hr (by decide : 1 ≤ 1) (by rfl) (pa_cons (pv 0) (pa_cons pe_int pa_nil))) pe_int)))) pss_nil)
      (pss_cons (ps_set (i := 4) sc_law_text.nd rfl (Or.inl rfl) pe_str)
      (pss_cons (ps_set (i := 5) sc_law_text.nd rfl (Or.inl rfl) (pe_abs (pe_op op_mod (pv 3) (pe_op op_add (pv 2) pe_int))))
      (pss_cons (ps_set (i := 3) sc_law_text.nd rfl (Or.inl rfl) (pe_abs (pe_op op_fdiv (pv 3) (pe_op op_add (pv 2) pe_int))))
      (pss_cons (ps_for PassesOwn.never (by rfl) (pi_range1 (by rfl) B.range (pa_cons (pv 5) pa_nil)) (pg_name (i := 6) sc_law_text.nd rfl (Or.inl rfl)) (pss_cons (ps_set (i := 4) sc_law_text.nd rfl (Or.inl rfl) (pe_op op_add_str (pv 4) (pe_ix ix_str (pv 1) (pe_op op_mod (pv 3) (pe_callB call_len_str (by rfl) B.len bt_len (pa_cons (pv 1) pa_nil))) (by intro _ _; rfl))))
      (pss_one (ps_set (i := 3) sc_law_text.nd rfl (Or.inl rfl) (pe_abs (pe_op op_fdiv (pv 3) (pe_callB call_len_str (by rfl) B.len bt_len (pa_cons (pv 1) pa_nil))))))))
      (pss_one (ps_ret (pv 4))))))))), ?_⟩
  refine ⟨fun v H' => H = H' ∧ ∃ m : Int, v = .int m, ⟨_, rfl, a, ns, 1, rfl, hS, (by decide), _, _, rfl, fun n1 _ _ => ⟨_, _, rfl, rfl, .inr ⟨by decide, by decide⟩, _, rfl, a, ns, 1, rfl, hS, (by decide), _, _, rfl, fun n2 _ _ => ⟨_, _, rfl, rfl, rfl, _, rfl⟩⟩⟩, ?_⟩
  rintro _ _ ⟨rfl, r0, rfl⟩
  refine ⟨fun σ H' => H = H' ∧ ∃ m : Int, σ = [some (.ref a), some (.str g), some (.int n), some (.int m), none, none, none], ?_, ?_⟩
  · refine ⟨_, rfl, a, ns, 0, rfl, hS, (by decide), _, _, rfl, rfl, pz, rfl, _, rfl, iteDd (fun _ => ?_) (fun _ => ⟨rfl, _, rfl⟩)⟩
    refine ⟨fun v H' => H = H' ∧ ∃ m : Int, v = .int m, ⟨_, rfl, a, ns, 1, rfl, hS, (by decide), _, _, rfl, rfl, (by show (0 : Int) ≤ 900; decide), rfl, _, rfl⟩, ?_⟩
    rintro _ _ ⟨rfl, r1, rfl⟩
    exact ⟨rfl, _, rfl⟩
  rintro σ H' ⟨rfl, r1, rfl⟩
  refine ⟨fun v H' => H = H' ∧ isNum 0 50 v, ⟨_, rfl, _, rfl, _, _, rfl, rfl, _, _, rfl, rfl, (by show 0 < n + 1; omega), rfl, _, rfl, Int.emod_nonneg _ (by omega), ?_⟩, ?_⟩
  · have := Int.emod_lt_of_pos r1 (show 0 < n + 1 by omega)
    omega
  rintro _ _ ⟨rfl, m, rfl, m0, m1⟩
  refine ⟨fun v H' => H = H' ∧ ∃ m : Int, v = .int m, ⟨_, rfl, _, rfl, _, _, rfl, rfl, _, _, rfl, rfl, ⟨by show 0 < n + 1; omega, by show n + 1 < _; omega⟩, rfl, _, rfl⟩, ?_⟩
  rintro _ _ ⟨rfl, r2, rfl⟩
  refine ⟨_, rfl, _, rfl, by omega, by omega, ?_⟩
  refine for_range (fun i σ H' => H = H' ∧ ∃ (r : Int) (x : Str) (y : Option V), x.length = i ∧ σ = [some (.ref a), some (.str g), some (.int n), some (.int r), some (.str x), some (.int m), y]) ⟨rfl, _, "", _, rfl, rfl⟩ ?_ ?_
  · rintro i σ H' hi ⟨rfl, r3, x, y, hx, rfl⟩
    have hgl : (0 : Int) < g.length ∧ (g.length : Int) < 1073741824 := by omega
    obtain ⟨c', hc, hm⟩ := at_mem (xs := cl g) (i := r3 % (g.length : Int)) (Int.emod_nonneg _ (by omega)) (by rw [cl_length]; exact Int.emod_lt_of_pos _ hgl.1)
    refine ⟨_, rfl, _, rfl, _, rfl, _, rfl, g, rfl, szl (by omega), _, _, rfl, rfl, hgl.1, g, _, c', rfl, rfl, szl (by omega), hc, _, _, rfl, rfl, szl (by rw [hx, one_len]; omega), ?_⟩
    refine ⟨fun v H' => H = H' ∧ ∃ m : Int, v = .int m, ⟨_, rfl, _, rfl, g, rfl, szl (by omega), _, _, rfl, rfl, hgl, rfl, _, rfl⟩, ?_⟩
    rintro _ _ ⟨rfl, r4, rfl⟩
    exact ⟨rfl, _, _, _, by rw [len_app, hx]; rfl, rfl⟩
  rintro σ H' ⟨rfl, r3, x, y, hx, rfl⟩
  exact ⟨_, rfl, q x (by omega)⟩
theorem sc_law_follow : FnScope ["_law_scribe", "_law_script", "_law_most", "_law_signs_here", "_law_rooms", "_law_begins", "_law_steps", "_law_ends", "_law_number", "_law_text_here", "_law_room", "_law_k", "_law_on", "_law_step"] ["_law_scribe", "_law_script", "_law_most"] (defScope s_law_follow) := ⟨rfl, rfl, rfl, by decide +kernel, rfl, by decide +kernel, by decide +kernel⟩
theorem ok_law_follow (B : Bi mg) {c_NotPlain : Addr} (XB : Xb K mg c_NotPlain) (C_law_mixed : Cal P w K mg base "_law_mixed" ["_law_cell", "_law_k"] 1 (spMixed)) (C_law_cell_at : Cal P w K mg base "_law_cell_at" ["_law_script", "_law_k"] 1 (spCell K)) {f : Addr} {fd : FuncData} (F : Fun K "_law_follow" "_law_follow" s_law_follow f fd) : FnOk P w K mg base CX0 2 f fd ["_law_scribe", "_law_script", "_law_most"] (spFollow K) := by
  refine F.ok sc_law_follow (fun vs H Q E h => ?_) (fun cdv A outer s H vs Q E hr h => ?_)
  · obtain ⟨v, s, pb, ps, pe, a, ns, n, rfl, _⟩ := h; rfl
  obtain ⟨v, s, pb, ps, pe, a, ns, n, rfl, hV, okR, hS, n0, n1, hone, q⟩ := h
  refine ⟨_, (pss_cons (ps_asg (pv 0) (kPG (K := K) (fun k => gTup k 5 _) (pg_tup (n := 5) (by rfl) (pgs_cons (pg_name (i := 3) sc_law_follow.nd rfl (Or.inl rfl)) (pgs_cons (pg_name (i := 4) sc_law_follow.nd rfl (Or.inl rfl)) (pgs_cons (pg_name (i := 5) sc_law_follow.nd rfl (Or.inl rfl)) (pgs_cons (pg_name (i := 6) sc_law_follow.nd rfl (Or.inl rfl)) (pgs_cons (pg_name (i := 7) sc_law_follow.nd rfl (Or.inl rfl)) pgs_nil))))))))
      (pss_cons (ps_set (i := 8) sc_law_follow.nd rfl (Or.inl rfl) (pe_fn C_law_mixed hr (by decide : 1 ≤ 1) (by rfl) (pa_cons (pe_fn C_law_cell_at hr (by decide : 1 ≤ 1) (by rfl) (pa_cons (pv 1) (pa_cons pe_int pa_nil))) (pa_cons pe_int pa_nil))))
      (pss_cons (ps_set (i := 9) sc_law_follow.nd rfl (Or.inl rfl) pe_str)
      (pss_mid (ps_if (pt_cmpR (kOp (K := K) rNeD (op_neD hr.units)) (pv 5) (pe_lst pa_nil) (nomark _)) (pss_cons (ps_set (i := 10) sc_law_follow.nd rfl (Or.inr rfl) (pe_ix (kIx (K := K) rIxT ix_tup) (pe_ix (kIx (K := K) rIxL ix_list) (pv 5) pe_int (by intro _ _; rfl)) pe_int (by intro _ _; rfl)))
      (pss_one (ps_for PassesOwn.never (by rfl) (pi_range1 (by rfl) B.range (pa_cons (pe_op op_mod (pv 8) (pe_op op_add (pv 2) pe_int)) pa_nil)) (pg_name (i := 11) sc_law_follow.nd rfl (Or.inl rfl)) (pss_cons (ps_compset (i := 12) sc_law_follow.nd rfl (Or.inl rfl) (by rfl) (by rfl) (blk_mk (N' := ["_law_step", "_law_room"]) (js := [none, some 10]) rfl (by decide +kernel) rfl (by decide +kernel) rfl rfl) (kPI (K := K) (fun k => iList k _) (pi_list (pv 6))) (fun _ _ _ _ _ => (pg_name (i := 0) (show List.Nodup (["_law_step", "_law_room"] : List Str) by decide +kernel) rfl (Or.inl rfl))) (fun _ _ _ _ _ => (pf_one (pt_cmpR op_eq (pe_ix (kIx (K := K) rIxT ix_tup) (pv 0) pe_int (by intro _ _; rfl)) (pv 1) (nomark _)))) (fun _ _ _ _ _ => (pv 0)))
      (pss_one (ps_if (pt_cmpR (kOp (K := K) rNeD (op_neD hr.units)) (pv 12) (pe_lst pa_nil) (nomark _)) (pss_cons (ps_set (i := 13) sc_law_follow.nd rfl (Or.inl rfl) (pe_ix (kIx (K := K) rIxL ix_list) (pv 12) (pe_op op_mod (pe_fn C_law_mixed hr (by decide : 1 ≤ 1) (by rfl) (pa_cons (pv 8) (pa_cons (pe_op op_add pe_int (pv 11)) pa_nil))) (pe_callB (kLen (K := K)) (by rfl) B.len bt_len (pa_cons (pv 12) pa_nil))) (by intro _ _; rfl)))
      (pss_cons (ps_set (i := 9) sc_law_follow.nd rfl (Or.inl rfl) (pe_op op_add_str (pv 9) (pe_ix (kIx (K := K) rIxT ix_tup) (pv 13) pe_int (by intro _ _; rfl))))
      (pss_one (ps_set (i := 10) sc_law_follow.nd rfl (Or.inr rfl) (pe_ix (kIx (K := K) rIxT ix_tup) (pv 13) pe_int (by intro _ _; rfl)))))) pss_nil)))))) pss_nil)
      (pss_one (ps_ret (pv 9))))))), ?_⟩
  have lb := okR.lb
  have ls := okR.ls
  have le := okR.le
  obtain ⟨av, xb, xs, xe, rfl, h1, h2, h3, h4, h5, h6, h7⟩ := hV
  refine ⟨_, rfl, av, _, rfl, h1, rfl, _, _, rfl, _, _, rfl, _, _, rfl, _, _, rfl, _, _, rfl, rfl, ?_⟩
  refine ⟨_, rfl, a, ns, 2, rfl, hS, (by decide), _, _, rfl, fun nu nu0 _ => ?_⟩
  refine ⟨fun σ H' => Same H H' ∧ ∃ (x : Str) (x11 x12 x13 x14 : Option V), x.length ≤ 50 ∧ σ = [some (.ref av), some (.ref a), some (.int n), some (.str s.signs), some (.int s.rooms), some (.ref pb), some (.ref ps), some (.ref pe), some (.int nu), some (.str x), x11, x12, x13, x14], ?_, ?_⟩
  · refine ⟨_, rfl, szl (by simp), fun l hl => ?_⟩
    have gl := same_new hl (.lst [])
    refine ⟨.lst (s.begins.map dMk), .lst [], rep_lst (gl.seq h2) (notIn_mk (m := (0, "")) (paired_mono (fun _ _ => MkV.mono (Same.grow gl)) h5)), rep_lst (SqL.of upd_same) .nil, ?_, _, rfl, ?_⟩
    · have := deeps_map dMk 1 deep_dMk s.begins
      simp only [deep]; omega
    generalize upd H l (.lst []) = H2 at gl ⊢
    have hbl := h5.length
    cases hb : s.begins with
    | nil => exact iteF ⟨gl, "", _, _, _, _, Nat.zero_le _, rfl⟩
    | cons m0 M0 =>
    rw [hb, List.length_cons] at hbl
    refine iteT ?_
    have hm0 : s.begins[0]? = some m0 := by rw [hb]; rfl
    obtain ⟨vb, hc, b, rfl, hb1⟩ := paired_getL h5 hm0
    refine ⟨_, rfl, pb, xb, _, _, rfl, rfl, gl.seq h2, atI_nat hc, b, _, _, _, rfl, rfl, Same.seqT gl hb1, rfl, ?_⟩
    have t1 := Int.emod_lt_of_pos nu (show 0 < n + 1 by omega)
    have t0 := Int.emod_nonneg nu (show n + 1 ≠ 0 by omega)
    refine ⟨_, rfl, _, rfl, _, _, rfl, rfl, _, _, rfl, rfl, (by show 0 < n + 1; omega), _, rfl, by omega, by omega, ?_⟩
    refine for_range (fun i σ H' => Same H H' ∧ ∃ (x : Str) (r : Int) (x12 x13 x14 : Option V), x.length ≤ i ∧ σ = [some (.ref av), some (.ref a), some (.int n), some (.str s.signs), some (.int s.rooms), some (.ref pb), some (.ref ps), some (.ref pe), some (.int nu), some (.str x), some (.int r), x12, x13, x14]) ⟨gl, "", _, _, _, _, Nat.zero_le _, rfl⟩ ?_ ?_
    · rintro i σ H3 hi ⟨g3, x, r, x12, x13, x14, hx, rfl⟩
      have hi50 : i < 51 := by omega
      have h33 := g3.seq h3
      refine ⟨_, rfl, ps, rfl, ⟨xs, h33⟩, ?_⟩
      refine comp_list (xs := xs) (fun i ys τ H' => H3 = H' ∧ (∃ x, τ = [x, some (.int r)]) ∧ i ≤ xs.length ∧ ys.length ≤ i ∧ ∃ L, (∀ t ∈ L, t ∈ s.steps) ∧ Paired (StV K H3) L ys) ⟨rfl, ⟨_, rfl⟩, Nat.zero_le _, Nat.zero_le _, [], (fun t ht => nomatch ht), .nil⟩ (fun i ys τ H' z => z.1 ▸ h33) ?_ ?_
      · rintro i2 y ys τ _ hy ⟨rfl, ⟨x0, rfl⟩, hi2, hyl, L, hL1, hL2⟩
        obtain ⟨t, ht, b2, rfl, hb2⟩ := paired_get h6 hy
        have hil : i2 < xs.length := (List.getElem?_eq_some_iff.mp hy).1
        have hsl := h6.length
        have hb23 := Same.seqT g3 hb2
        refine ⟨_, rfl, _, _, _, _, rfl, rfl, hb23, rfl, _, rfl, rfl, _, rfl, iteDd (fun _ => ?_) (fun _ => ⟨rfl, ⟨_, rfl⟩, hil, by omega, L, hL1, hL2⟩)⟩
        refine ⟨_, rfl, szl' (by omega), rfl, ⟨_, rfl⟩, hil, by rw [List.length_append, List.length_singleton]; omega, L ++ [t], fun t' ht' => ?_, paired_append hL2 (.cons ⟨b2, rfl, hb23⟩ .nil)⟩
        rcases List.mem_append.mp ht' with z | z
        · exact hL1 t' z
        · rw [List.mem_singleton.mp z]; exact List.mem_of_getElem? ht
      rintro zs τ _ ⟨rfl, _, _, hzl, L, hL1, hL2⟩ l0 hl0
      have g0 := same_new hl0 (.lst zs)
      have e0 := upd_same (H := H3) (a := l0) (o := .lst zs)
      have hL2 := paired_mono (fun _ _ => StV.mono (Same.grow g0)) hL2
      generalize upd H3 l0 (.lst zs) = H4 at g0 e0 hL2 ⊢
      refine ⟨_, rfl, szl (by simp), fun l2 hl2 => ?_⟩
      have gl2 := same_new hl2 (.lst [])
      have hL2 := paired_mono (fun _ _ => StV.mono (Same.grow gl2)) hL2
      have e1 := gl2 _ _ e0
      refine ⟨.lst (L.map dSt), .lst [], rep_lst (SqL.of e1) (reps_st hL2), rep_lst (SqL.of upd_same) .nil, ?_, _, rfl, ?_⟩
      · have := deeps_map dSt 1 deep_dSt L
        simp only [deep]; omega
      have g5 := (g3.trans g0).trans gl2
      generalize upd H4 l2 (.lst []) = H5 at g5 e1 hL2 ⊢
      have hzL := hL2.length
      cases hLL : L with
      | nil => exact iteF ⟨g5, x, r, _, _, _, by omega, rfl⟩
      | cons t00 L0 =>
      rw [hLL, List.length_cons] at hzL
      refine iteT ?_
      have hzp : (0 : Int) < (zs.length : Int) := by omega
      refine ⟨_, rfl, _, rfl, _, rfl, _, _, rfl, rfl, _, _, rfl, fun mx _ _ => ?_⟩
      obtain ⟨c2, hc2, hm2⟩ := at_mem (xs := zs) (i := mx % (zs.length : Int)) (Int.emod_nonneg _ (by omega)) (Int.emod_lt_of_pos _ hzp)
      obtain ⟨j2, hj2⟩ := List.getElem?_of_mem hm2
      obtain ⟨t, ht, b2, rfl, hb2⟩ := paired_get hL2 hj2
      have htw := hone t (hL1 t (List.mem_of_getElem? ht))
      refine ⟨_, rfl, l0, zs, rfl, .inl (SqL.of e1), _, _, rfl, rfl, hzp, l0, zs, _, _, rfl, rfl, SqL.of e1, hc2, ?_⟩
      refine ⟨_, rfl, _, rfl, b2, _, _, _, rfl, rfl, hb2, rfl, _, _, rfl, rfl, szl (by omega), ?_⟩
      refine ⟨_, rfl, b2, _, _, _, rfl, rfl, hb2, rfl, ?_⟩
      exact ⟨g5, _, _, _, _, _, by rw [len_app]; omega, rfl⟩
    rintro σ H3 ⟨g3, x, r, x12, x13, x14, hx, rfl⟩
    exact ⟨g3, x, _, _, _, _, by omega, rfl⟩
  rintro σ H' ⟨g2, x, x11, x12, x13, x14, hx, rfl⟩
  exact ⟨_, rfl, q x _ hx g2⟩
theorem sc_law_rooms_good : FnScope ["_law_found", "_law_signs_here", "_law_rooms", "_law_begins", "_law_steps", "_law_ends", "_law_numbers", "_law_outs", "_law_last"] ["_law_found"] (defScope s_law_rooms_good) := ⟨rfl, rfl, rfl, by decide +kernel, rfl, by decide +kernel, by decide +kernel⟩
theorem ok_law_rooms_good (B : Bi mg) {c_NotPlain : Addr} (XB : Xb K mg c_NotPlain)  {f : Addr} {fd : FuncData} (F : Fun K "_law_rooms_good" "_law_rooms_good" s_law_rooms_good f fd) : FnOk P w K mg base CX0 1 f fd ["_law_found"] (spGood K) := by
  refine F.ok sc_law_rooms_good (fun vs H Q E h => ?_) (fun cdv A outer s H vs Q E hr h => ?_)
  · obtain ⟨v, s, pb, ps, pe, rfl, _⟩ := h; rfl
  obtain ⟨v, s, pb, ps, pe, rfl, hN, okR, hPl, hsg, q⟩ := h
  refine ⟨_, (pss_cons (ps_asg (pv 0) (kPG (K := K) (fun k => gTup k 5 _) (pg_tup (n := 5) (by rfl) (pgs_cons (pg_name (i := 1) sc_law_rooms_good.nd rfl (Or.inr rfl)) (pgs_cons (pg_name (i := 2) sc_law_rooms_good.nd rfl (Or.inr rfl)) (pgs_cons (pg_name (i := 3) sc_law_rooms_good.nd rfl (Or.inl rfl)) (pgs_cons (pg_name (i := 4) sc_law_rooms_good.nd rfl (Or.inl rfl)) (pgs_cons (pg_name (i := 5) sc_law_rooms_good.nd rfl (Or.inl rfl)) pgs_nil))))))))
      (pss_cons (ps_set (i := 6) sc_law_rooms_good.nd rfl (Or.inl rfl) (pe_op op_cat (pe_op op_cat (pe_comp rfl (blk_mk (N' := ["_law_pair"]) (js := [none]) rfl (by decide +kernel) rfl (by decide +kernel) rfl rfl) (kPI (K := K) (fun k => iList k _) (pi_list (pe_op op_cat (pv 3) (pv 5)))) (fun _ _ _ _ _ => (pg_name (i := 0) (show List.Nodup (["_law_pair"] : List Str) by decide +kernel) rfl (Or.inl rfl))) (fun _ _ _ _ _ => pf_nil) (fun _ _ _ _ _ => (pe_ix (kIx (K := K) rIxT ix_tup) (pv 0) pe_int (by intro _ _; rfl)))) (pe_comp rfl (blk_mk (N' := ["_law_step"]) (js := [none]) rfl (by decide +kernel) rfl (by decide +kernel) rfl rfl) (kPI (K := K) (fun k => iList k _) (pi_list (pv 4))) (fun _ _ _ _ _ => (pg_name (i := 0) (show List.Nodup (["_law_step"] : List Str) by decide +kernel) rfl (Or.inl rfl))) (fun _ _ _ _ _ => pf_nil) (fun _ _ _ _ _ => (pe_ix (kIx (K := K) rIxT ix_tup) (pv 0) pe_int (by intro _ _; rfl))))) (pe_comp rfl (blk_mk (N' := ["_law_step"]) (js := [none]) rfl (by decide +kernel) rfl (by decide +kernel) rfl rfl) (kPI (K := K) (fun k => iList k _) (pi_list (pv 4))) (fun _ _ _ _ _ => (pg_name (i := 0) (show List.Nodup (["_law_step"] : List Str) by decide +kernel) rfl (Or.inl rfl))) (fun _ _ _ _ _ => pf_nil) (fun _ _ _ _ _ => (pe_ix (kIx (K := K) rIxT ix_tup) (pv 0) pe_int (by intro _ _; rfl))))))
      (pss_cons (ps_if (PW.pt (pw_or (pt_cmpR op_gt (pe_callB (kLen (K := K)) (by rfl) B.len bt_len (pa_cons (pe_comp rfl (blk_mk (N' := ["_law_number", "_law_rooms"]) (js := [none, some 2]) rfl (by decide +kernel) rfl (by decide +kernel) rfl rfl) (kPI (K := K) (fun k => iList k _) (pi_list (pv 6))) (fun _ _ _ _ _ => (pg_name (i := 0) (show List.Nodup (["_law_number", "_law_rooms"] : List Str) by decide +kernel) rfl (Or.inl rfl))) (fun _ _ _ _ _ => (pf_one (PW.pt (pw_or (pt_cmpR op_lt (pv 0) pe_int (nomark _)) (pw_or1 (pt_cmpR op_ge (pv 0) (pv 1) (nomark _))))))) (fun _ _ _ _ _ => (pv 0))) pa_nil)) pe_int (nomark _)) (pw_or1 (pt_cmpR op_gt (pe_callB (kLen (K := K)) (by rfl) B.len bt_len (pa_cons (pv 3) pa_nil)) pe_int (nomark _))))) (pss_one (ps_ret pe_bl)) pss_nil)
      (pss_cons (ps_if (pt_cmpR op_gt (pe_callB (kLen (K := K)) (by rfl) B.len bt_len (pa_cons (pe_comp rfl (blk_mk (N' := ["_law_step", "_law_signs_here"]) (js := [none, some 1]) rfl (by decide +kernel) rfl (by decide +kernel) rfl rfl) (kPI (K := K) (fun k => iList k _) (pi_list (pv 4))) (fun _ _ _ _ _ => (pg_name (i := 0) (show List.Nodup (["_law_step", "_law_signs_here"] : List Str) by decide +kernel) rfl (Or.inl rfl))) (fun _ _ _ _ _ => (pf_one (PW.pt (pw_or (pt_cmpR op_notIn_str (pe_ix (kIx (K := K) rIxT ix_tup) (pv 0) pe_int (by intro _ _; rfl)) (pv 1) rfl) (pw_or1 (pt_cmpR op_ne (pe_callB call_len_str (by rfl) B.len bt_len (pa_cons (pe_ix (kIx (K := K) rIxT ix_tup) (pv 0) pe_int (by intro _ _; rfl)) pa_nil)) pe_int (nomark _))))))) (fun _ _ _ _ _ => (pv 0))) pa_nil)) pe_int (nomark _)) (pss_one (ps_ret pe_bl)) pss_nil)
      (pss_cons (ps_compset (i := 7) sc_law_rooms_good.nd rfl (Or.inl rfl) (by rfl) (by rfl) (blk_mk (N' := ["_law_step"]) (js := [none]) rfl (by decide +kernel) rfl (by decide +kernel) rfl rfl) (kPI (K := K) (fun k => iList k _) (pi_list (pv 4))) (fun _ _ _ _ _ => (pg_name (i := 0) (show List.Nodup (["_law_step"] : List Str) by decide +kernel) rfl (Or.inl rfl))) (fun _ _ _ _ _ => pf_nil) (fun _ _ _ _ _ => (pe_tup (pa_cons (pe_ix (kIx (K := K) rIxT ix_tup) (pv 0) pe_int (by intro _ _; rfl)) (pa_cons (pe_ix (kIx (K := K) rIxT ix_tup) (pv 0) pe_int (by intro _ _; rfl)) pa_nil)))))
      (pss_cons (ps_compset (i := 8) sc_law_rooms_good.nd rfl (Or.inl rfl) (by rfl) (by rfl) (blk_mk (N' := ["_law_pair"]) (js := [none]) rfl (by decide +kernel) rfl (by decide +kernel) rfl rfl) (kPI (K := K) (fun k => iList k _) (pi_list (pv 5))) (fun _ _ _ _ _ => (pg_name (i := 0) (show List.Nodup (["_law_pair"] : List Str) by decide +kernel) rfl (Or.inl rfl))) (fun _ _ _ _ _ => pf_nil) (fun _ _ _ _ _ => (pe_ix (kIx (K := K) rIxT ix_tup) (pv 0) pe_int (by intro _ _; rfl))))
      (pss_one (ps_ret (pe_and (pe_cmpR op_eq (pe_callB call_len_set (by rfl) B.len bt_len (pa_cons (pe_callTy (call_set hr (by rfl)) (by rfl) B.set bt_set (pa_cons (pv 7) pa_nil)) pa_nil)) (pe_callB (kLen (K := K)) (by rfl) B.len bt_len (pa_cons (pv 7) pa_nil)) (nomark _)) (pe_one (pe_cmpR op_eq (pe_callB call_len_set (by rfl) B.len bt_len (pa_cons (pe_callTy (call_set hr (by rfl)) (by rfl) B.set bt_set (pa_cons (pv 8) pa_nil)) pa_nil)) (pe_callB (kLen (K := K)) (by rfl) B.len bt_len (pa_cons (pv 8) pa_nil)) (nomark _)))))))))))), ?_⟩
  obtain ⟨a, xb, xs, xe, rfl, h1, h2, h3, h4, h5, h6, h7⟩ := hN
  have l5 : s.begins.length = xb.length := h5.length
  have l6 : s.steps.length = xs.length := h6.length
  have l7 : s.ends.length = xe.length := h7.length
  have ob := okR.lb
  have os := okR.ls
  have oe := okR.le
  refine ⟨_, rfl, a, _, rfl, h1, rfl, _, _, rfl, _, _, rfl, _, _, rfl, _, _, rfl, _, _, rfl, rfl, ?_⟩
  refine ⟨_, rfl, _, rfl, pb, pe, xb, xe, rfl, rfl, h2, h4, szl (by omega), fun p hp => ⟨p, rfl, ⟨_, SqL.of upd_same⟩, ?_⟩⟩
  have gp := same_new hp (.lst (xb ++ xe))
  have ep := upd_same (H := H) (a := p) (o := .lst (xb ++ xe))
  have hM : Paired (MkV K _) (s.begins ++ s.ends) (xb ++ xe) := paired_mono (fun _ _ => MkV.mono (Same.grow gp)) (paired_append h5 h7)
  have lM := hM.length
  rw [List.length_append] at lM
  generalize upd H p (.lst (xb ++ xe)) = H1 at gp ep hM ⊢
  refine comp_list (xs := xb ++ xe) (fun i ys τ H' => H1 = H' ∧ (∃ y, τ = [y]) ∧ i ≤ (xb ++ xe).length ∧ ys = (((s.begins ++ s.ends).take i).map (·.1)).map V.int) ⟨rfl, ⟨_, rfl⟩, Nat.zero_le _, rfl⟩ (fun i ys τ H' z => z.1 ▸ SqL.of ep) ?_ ?_
  · rintro i y ys τ _ hy ⟨rfl, ⟨y0, rfl⟩, hi, rfl⟩
    obtain ⟨m, hm, b, rfl, hb⟩ := paired_get hM hy
    have hil : i < (xb ++ xe).length := (List.getElem?_eq_some_iff.mp hy).1
    refine ⟨_, rfl, b, _, _, _, rfl, rfl, hb, rfl, szl' (by rw [List.length_map, List.length_map, List.length_take]; omega), rfl, ⟨_, rfl⟩, hil, ?_⟩
    rw [take_get hm, List.map_append, List.map_append]; rfl
  rintro ys τ _ ⟨rfl, _, _, rfl⟩ q1 hq1
  rw [← hM.length, List.take_length]
  generalize hN1 : (s.begins ++ s.ends).map (·.1) = N1
  have lN1 : N1.length = s.begins.length + s.ends.length := by rw [← hN1, List.length_map, List.length_append]
  have g1 := gp.trans (same_new hq1 (.lst (N1.map V.int)))
  have e1 := upd_same (H := H1) (a := q1) (o := .lst (N1.map V.int))
  generalize upd H1 q1 (.lst (N1.map V.int)) = H2 at g1 e1 ⊢
  refine ⟨_, rfl, ps, rfl, ⟨xs, SqL.of (g1 _ _ h3)⟩, ?_⟩
  refine comp_list (xs := xs) (fun i ys τ H' => H2 = H' ∧ (∃ y, τ = [y]) ∧ i ≤ xs.length ∧ ys = ((s.steps.take i).map (·.1)).map V.int) ⟨rfl, ⟨_, rfl⟩, Nat.zero_le _, rfl⟩ (fun i ys τ H' z => z.1 ▸ SqL.of (g1 _ _ h3)) ?_ ?_
  · rintro i y ys τ _ hy ⟨rfl, ⟨y0, rfl⟩, hi, rfl⟩
    obtain ⟨m, hm, b, rfl, hb⟩ := paired_get h6 hy
    have hil : i < xs.length := (List.getElem?_eq_some_iff.mp hy).1
    refine ⟨_, rfl, b, _, _, _, rfl, rfl, Same.seqT g1 hb, rfl, szl' (by rw [List.length_map, List.length_map, List.length_take]; omega), rfl, ⟨_, rfl⟩, hil, ?_⟩
    rw [take_get hm, List.map_append, List.map_append]; rfl
  rintro ys τ _ ⟨rfl, _, _, rfl⟩ q2 hq2
  rw [← l6, List.take_length]
  generalize hN2 : s.steps.map (·.1) = N2
  have lN2 : N2.length = s.steps.length := by rw [← hN2, List.length_map]
  have k2 := same_new hq2 (.lst (N2.map V.int))
  have g2 := g1.trans k2
  have e1 := k2 _ _ e1
  have e2 := upd_same (H := H2) (a := q2) (o := .lst (N2.map V.int))
  generalize upd H2 q2 (.lst (N2.map V.int)) = H3 at g2 e1 e2 ⊢
  refine ⟨q1, q2, _, _, rfl, rfl, e1, e2, szl (by rw [List.length_map, List.length_map]; omega), fun q3 hq3 => ?_⟩
  rw [← List.map_append]
  have g3 := g2.trans (same_new hq3 (.lst ((N1 ++ N2).map V.int)))
  have e3 := upd_same (H := H3) (a := q3) (o := .lst ((N1 ++ N2).map V.int))
  generalize upd H3 q3 (.lst ((N1 ++ N2).map V.int)) = H4 at g3 e3 ⊢
  refine ⟨_, rfl, ps, rfl, ⟨xs, SqL.of (g3 _ _ h3)⟩, ?_⟩
  refine comp_list (xs := xs) (fun i ys τ H' => H4 = H' ∧ (∃ y, τ = [y]) ∧ i ≤ xs.length ∧ ys = ((s.steps.take i).map (·.2.2.2)).map V.int) ⟨rfl, ⟨_, rfl⟩, Nat.zero_le _, rfl⟩ (fun i ys τ H' z => z.1 ▸ SqL.of (g3 _ _ h3)) ?_ ?_
  · rintro i y ys τ _ hy ⟨rfl, ⟨y0, rfl⟩, hi, rfl⟩
    obtain ⟨m, hm, b, rfl, hb⟩ := paired_get h6 hy
    have hil : i < xs.length := (List.getElem?_eq_some_iff.mp hy).1
    refine ⟨_, rfl, b, _, _, _, rfl, rfl, Same.seqT g3 hb, rfl, szl' (by rw [List.length_map, List.length_map, List.length_take]; omega), rfl, ⟨_, rfl⟩, hil, ?_⟩
    rw [take_get hm, List.map_append, List.map_append]; rfl
  rintro ys τ _ ⟨rfl, _, _, rfl⟩ q4 hq4
  rw [← l6, List.take_length]
  generalize hN3 : s.steps.map (·.2.2.2) = N3
  have lN3 : N3.length = s.steps.length := by rw [← hN3, List.length_map]
  have k4 := same_new hq4 (.lst (N3.map V.int))
  have g4 := g3.trans k4
  have e3 := k4 _ _ e3
  have e4 := upd_same (H := H4) (a := q4) (o := .lst (N3.map V.int))
  generalize upd H4 q4 (.lst (N3.map V.int)) = H5 at g4 e3 e4 ⊢
  refine ⟨q3, q4, _, _, rfl, rfl, e3, e4, szl (by rw [List.length_map, List.length_map, List.length_append]; omega), fun q5 hq5 => ?_⟩
  rw [← List.map_append]
  have hin : ∀ n ∈ N1 ++ N2 ++ N3, 0 ≤ n ∧ n < s.rooms := fun n hn => by
    rcases List.mem_append.mp hn with hn | hn
    · rcases List.mem_append.mp hn with hn | hn
      · rw [← hN1] at hn
        obtain ⟨m, hm, rfl⟩ := List.mem_map.mp hn
        rcases List.mem_append.mp hm with hm | hm
        · exact okR.mb m hm
        · exact okR.me m hm
      · rw [← hN2] at hn
        obtain ⟨m, hm, rfl⟩ := List.mem_map.mp hn
        exact ⟨(okR.ms m hm).1, (okR.ms m hm).2.1⟩
    · rw [← hN3] at hn
      obtain ⟨m, hm, rfl⟩ := List.mem_map.mp hn
      exact (okR.ms m hm).2.2
  generalize N1 ++ N2 ++ N3 = NN at hin ⊢
  have g5 := g4.trans (same_new hq5 (.lst (NN.map V.int)))
  have e5 := upd_same (H := H5) (a := q5) (o := .lst (NN.map V.int))
  generalize upd H5 q5 (.lst (NN.map V.int)) = H6 at g5 e5 ⊢
  refine ⟨_, rfl, q5, rfl, ⟨_, SqL.of e5⟩, ?_⟩
  refine comp_list (xs := NN.map V.int) (fun i ys τ H' => H6 = H' ∧ (∃ y, τ = [y, some (.int s.rooms)]) ∧ ys = []) ⟨rfl, ⟨_, rfl⟩, rfl⟩ (fun i ys τ H' z => z.1 ▸ SqL.of e5) ?_ ?_
  · rintro i y ys τ _ hy ⟨rfl, ⟨y0, rfl⟩, rfl⟩
    rw [List.getElem?_map] at hy
    obtain ⟨n, hn, rfl⟩ := Option.map_eq_some_iff.mp hy
    obtain ⟨n0, n1⟩ := hin n (List.mem_of_getElem? hn)
    refine ⟨_, rfl, _, _, rfl, rfl, _, rfl, iteDd (fun c => absurd c (by omega)) (fun _ => ?_)⟩
    exact ⟨_, rfl, _, rfl, _, _, rfl, rfl, _, rfl, iteDd (fun c => absurd c (by omega)) (fun _ => ⟨rfl, ⟨_, rfl⟩, rfl⟩)⟩
  rintro ys τ _ ⟨rfl, _, rfl⟩ q6 hq6
  have g6 := g5.trans (same_new hq6 (.lst []))
  have e6 := upd_same (H := H6) (a := q6) (o := .lst [])
  generalize upd H6 q6 (.lst []) = H7 at g6 e6 ⊢
  refine ⟨q6, _, rfl, .inl (SqL.of e6), _, _, rfl, rfl, _, rfl, iteDd (fun c => absurd c (by simp)) (fun _ => ?_)⟩
  have pb1 := (plain_iff.mp hPl).1
  refine ⟨_, rfl, pb, _, rfl, .inl (SqL.of (g6 _ _ h2)), _, _, rfl, rfl, _, rfl, iteDd (fun c => absurd c (by omega)) (fun _ => ?_)⟩
  refine ⟨_, rfl, ps, rfl, ⟨xs, SqL.of (g6 _ _ h3)⟩, ?_⟩
  refine comp_list (xs := xs) (fun i ys τ H' => H7 = H' ∧ (∃ y, τ = [y, some (.str s.signs)]) ∧ ys = []) ⟨rfl, ⟨_, rfl⟩, rfl⟩ (fun i ys τ H' z => z.1 ▸ SqL.of (g6 _ _ h3)) ?_ ?_
  · rintro i y ys τ _ hy ⟨rfl, ⟨y0, rfl⟩, rfl⟩
    obtain ⟨t, ht, b, rfl, hb⟩ := paired_get h6 hy
    obtain ⟨c, hc, ec⟩ := hsg t (List.mem_of_getElem? ht)
    have hb7 := Same.seqT g6 hb
    rw [ec] at hb7
    refine ⟨_, rfl, b, _, _, _, rfl, rfl, hb7, rfl, _, rfl, _, _, rfl, rfl, _, rfl, ?_⟩
    rw [in_one, decide_eq_true hc]
    refine iteF ?_
    exact ⟨_, rfl, b, _, _, _, rfl, rfl, hb7, rfl, _, rfl, szl (by show 1 ≤ 100000; decide), rfl, _, rfl, iteNd (fun z => absurd rfl z) (fun _ => ⟨rfl, ⟨_, rfl⟩, rfl⟩)⟩
  rintro ys τ _ ⟨rfl, _, rfl⟩ q7 hq7
  have g7 := g6.trans (same_new hq7 (.lst []))
  have e7 := upd_same (H := H7) (a := q7) (o := .lst [])
  generalize upd H7 q7 (.lst []) = H8 at g7 e7 ⊢
  refine ⟨q7, _, rfl, .inl (SqL.of e7), _, _, rfl, rfl, _, rfl, iteDd (fun c => absurd c (by simp)) (fun _ => ?_)⟩
  have lo : (outs s).length = xs.length := by unfold outs; rw [List.length_map]; exact h6.length
  have le : (lasts s).length = xe.length := by unfold lasts; rw [List.length_map]; exact h7.length
  refine ⟨_, rfl, ps, rfl, ⟨xs, SqL.of (g7 _ _ h3)⟩, ?_⟩
  refine comp_list (xs := xs) (fun i ys τ H' => Same H H' ∧ (∃ x, τ = [x]) ∧ i ≤ 999 ∧ ys.length = i ∧ Paired (KeyV K H') ((outs s).take i) ys) ⟨g7, ⟨_, rfl⟩, Nat.zero_le _, rfl, .nil⟩ (fun i ys τ H' z => z.1.seq (SqL.of h3)) ?_ ?_
  · rintro i x ys τ H' hx ⟨g, ⟨y, rfl⟩, hi, hy, hP⟩
    obtain ⟨t, ht, b, rfl, hb⟩ := paired_get h6 hx
    have hb' := (Same.grow g).seqT hb
    have hil : i < xs.length := (List.getElem?_eq_some_iff.mp hx).1
    refine ⟨_, rfl, _, _, _, _, rfl, rfl, hb', rfl, _, rfl, _, _, _, _, rfl, rfl, hb', rfl, (by show 2 ≤ sizeLine; decide), fun p hp => ⟨szl' (by omega), g.trans (same_new hp _), ⟨_, rfl⟩, by omega, by rw [List.length_append]; show ys.length + 1 = i + 1; omega, ?_⟩⟩
    have e : (outs s).take (i + 1) = (outs s).take i ++ [[Sum.inl t.1, Sum.inr t.2.1]] := by
      have : (outs s)[i]? = some [Sum.inl t.1, Sum.inr t.2.1] := by unfold outs; rw [List.getElem?_map, ht]; rfl
      rw [List.take_add_one, this]; rfl
    rw [e]
    exact paired_append (paired_mono (fun _ _ => KeyV.mono (grow_new hp _)) hP) (.cons ⟨p, rfl, SqT.of upd_same⟩ .nil)
  rintro ys τ H9 ⟨g9, _, _, hy1, hP1⟩ p hp
  rw [← lo, List.take_length] at hP1
  have gp := same_new hp (.lst ys)
  have ep := upd_same (H := H9) (a := p) (o := .lst ys)
  have g9 := g9.trans gp
  have hP1 := paired_mono (fun _ _ => KeyV.mono (Same.grow gp)) hP1
  generalize upd H9 p (.lst ys) = H10 at ep g9 hP1 ⊢
  have h7' : Paired (MkV K H10) s.ends xe := paired_mono (fun _ _ => MkV.mono (Same.grow g9)) h7
  refine ⟨_, rfl, pe, rfl, ⟨xe, SqL.of (g9 _ _ h4)⟩, ?_⟩
  refine comp_list (xs := xe) (fun i ys τ H' => H10 = H' ∧ (∃ x, τ = [x]) ∧ i ≤ 999 ∧ ys.length = i ∧ ys = ((lasts s).take i).map kV) ⟨rfl, ⟨_, rfl⟩, Nat.zero_le _, rfl, rfl⟩ (fun i ys τ H' z => z.1 ▸ SqL.of (g9 _ _ h4)) ?_ ?_
  · rintro i x ys τ H' hx ⟨rfl, ⟨y, rfl⟩, hi, hy, hP⟩
    obtain ⟨t, ht, b, rfl, hb⟩ := paired_get h7' hx
    have hil : i < xe.length := (List.getElem?_eq_some_iff.mp hx).1
    refine ⟨_, rfl, _, _, _, _, rfl, rfl, hb, rfl, szl' (by omega), rfl, ⟨_, rfl⟩, by omega, by rw [List.length_append]; show ys.length + 1 = i + 1; omega, ?_⟩
    have e : (lasts s).take (i + 1) = (lasts s).take i ++ [Sum.inl t.1] := by
      have : (lasts s)[i]? = some (Sum.inl t.1) := by unfold lasts; rw [List.getElem?_map, ht]; rfl
      rw [List.take_add_one, this]; rfl
    rw [e, List.map_append, hP]
    rfl
  rintro zs τ _ ⟨rfl, _, _, hy3, hP3⟩ p3 hp3
  rw [← le, List.take_length] at hP3
  subst hP3
  have gz := same_new hp3 (.lst ((lasts s).map kV))
  have ez := upd_same (H := H10) (a := p3) (o := .lst ((lasts s).map kV))
  have g10 := g9.trans gz
  have ep := gz _ _ ep
  have hP1 := paired_mono (fun _ _ => KeyV.mono (Same.grow gz)) hP1
  generalize upd H10 p3 (.lst ((lasts s).map kV)) = H11 at ez g10 ep hP1 ⊢
  have hle1 := ndist_le (outs s).reverse
  have hle2 := ndist_le (lasts s).reverse
  rw [List.length_reverse] at hle1 hle2
  have nd1 : (outs s).Nodup := outs_nd.mpr (plain_iff.mp hPl).2.1
  have nd2 : (lasts s).Nodup := lasts_nd.mpr (plain_iff.mp hPl).2.2
  have e1 : decide (V.int ((ndist (outs s).reverse : Nat) : Int) = V.int (ys.length : Int)) = true := by rw [nd_int, ← hP1.length, nodup_dec]; exact decide_eq_true nd1
  have e2 : decide (V.int ((ndist (lasts s).reverse : Nat) : Int) = V.int (((lasts s).map kV).length : Int)) = true := by rw [nd_int, List.length_map, nodup_dec]; exact decide_eq_true nd2
  refine ⟨_, rfl, .inl ⟨_, ys, outs s, rfl, SqL.of ep, hP1, by omega, fun d hd => ?_⟩⟩
  have gd := same_new hd (SetN d (ndist (outs s).reverse))
  refine ⟨_, _, rfl, upd_same, by omega, _, rfl, p, ys, rfl, .inl (gd.seq (SqL.of ep)), rfl, _, rfl, ?_⟩
  rw [e1]
  have g11 := g10.trans gd
  have ez := gd _ _ ez
  generalize upd H11 d (SetN d (ndist (outs s).reverse)) = H12 at g11 ez ⊢
  refine iteT ?_
  refine ⟨_, rfl, .inr ⟨_, lasts s, rfl, SqL.of ez, by omega, fun d2 hd2 => ?_⟩⟩
  have gd2 := same_new hd2 (SetN d2 (ndist (lasts s).reverse))
  refine ⟨_, _, rfl, upd_same, by omega, _, rfl, p3, _, rfl, .inl (gd2.seq (SqL.of ez)), rfl, ?_⟩
  show Q (.bl (decide (V.int ((ndist (lasts s).reverse : Nat) : Int) = V.int (((lasts s).map kV).length : Int)))) _
  rw [e2]
  exact q _ (g11.trans gd2)
theorem sc_law_firsts : FnScope ["_law_found", "_law_signs_here", "_law_rooms", "_law_begins", "_law_steps", "_law_ends", "_law_firsts_here", "_law_room", "_law_word_here", "_law_grown", "_law_low", "_law_sign", "_law_high", "_law_more", "_law_letter"] ["_law_found"] (defScope s_law_firsts) := ⟨rfl, rfl, rfl, by decide +kernel, rfl, by decide +kernel, by decide +kernel⟩
theorem ok_law_firsts (B : Bi mg) {c_NotPlain : Addr} (XB : Xb K mg c_NotPlain)  {f : Addr} {fd : FuncData} (F : Fun K "_law_firsts" "_law_firsts" s_law_firsts f fd) : FnOk P w K mg base CX0 1 f fd ["_law_found"] (spFirsts K) := by
  refine F.ok sc_law_firsts (fun vs H Q E h => ?_) (fun cdv A outer s H vs Q E hr h => ?_)
  · obtain ⟨v, e, pb, ps, pe, L, rfl, _⟩ := h; rfl
  obtain ⟨v, e, pb, ps, pe, L, rfl, hV, okR, wl, hL, r0, r1, q⟩ := h
  refine ⟨_, (pss_cons (ps_asg (pv 0) (kPG (K := K) (fun k => gTup k 5 _) (pg_tup (n := 5) (by rfl) (pgs_cons (pg_name (i := 1) sc_law_firsts.nd rfl (Or.inl rfl)) (pgs_cons (pg_name (i := 2) sc_law_firsts.nd rfl (Or.inl rfl)) (pgs_cons (pg_name (i := 3) sc_law_firsts.nd rfl (Or.inl rfl)) (pgs_cons (pg_name (i := 4) sc_law_firsts.nd rfl (Or.inl rfl)) (pgs_cons (pg_name (i := 5) sc_law_firsts.nd rfl (Or.inl rfl)) pgs_nil))))))))
      (pss_cons (ps_compset (i := 6) sc_law_firsts.nd rfl (Or.inl rfl) (by rfl) (by rfl) (blk_mk (N' := ["_law_room"]) (js := [none]) rfl (by decide +kernel) rfl (by decide +kernel) rfl rfl) (pi_range1 (by rfl) B.range (pa_cons (pv 2) pa_nil)) (fun _ _ _ _ _ => (pg_name (i := 0) (show List.Nodup (["_law_room"] : List Str) by decide +kernel) rfl (Or.inl rfl))) (fun _ _ _ _ _ => pf_nil) (fun _ _ _ _ _ => pe_dnewK))
      (pss_cons (ps_for PassesOwn.never (by rfl) (kPI (K := K) (fun k => iList k _) (pi_list (pv 5))) (kPG (K := K) (fun k => gTup k 2 _) (pg_tup (n := 2) (by rfl) (pgs_cons (pg_name (i := 7) sc_law_firsts.nd rfl (Or.inl rfl)) (pgs_cons (pg_name (i := 8) sc_law_firsts.nd rfl (Or.inl rfl)) pgs_nil)))) (pss_one (ps_dput (hu_of hr) (pe_ix (kIx (K := K) rIxL ix_list) (pv 6) (pv 7) (by intro _ _; rfl)) (pe_slice sl_str (pv 8) po_none (po_some pe_int)) pe_bl rfl)))
      (pss_cons (ps_set (i := 9) sc_law_firsts.nd rfl (Or.inl rfl) pe_bl)
      (pss_cons (ps_while PassesOwn.never (pt_val (pv 9)) (pss_cons (ps_set (i := 9) sc_law_firsts.nd rfl (Or.inl rfl) pe_bl)
      (pss_one (ps_for PassesOwn.never (by rfl) (kPI (K := K) (fun k => iList k _) (pi_list (pv 4))) (kPG (K := K) (fun k => gTup k 4 _) (pg_tup (n := 4) (by rfl) (pgs_cons (pg_name (i := 10) sc_law_firsts.nd rfl (Or.inl rfl)) (pgs_cons (pg_name (i := 11) sc_law_firsts.nd rfl (Or.inl rfl)) (pgs_cons (pg_name (i := 8) sc_law_firsts.nd rfl (Or.inl rfl)) (pgs_cons (pg_name (i := 12) sc_law_firsts.nd rfl (Or.inl rfl)) pgs_nil)))))) (pss_cons (ps_set (i := 13) sc_law_firsts.nd rfl (Or.inl rfl) (pe_callTy (call_list_d (by rfl)) (by rfl) B.list bt_list (pa_cons (pe_ix (kIx (K := K) rIxL ix_list) (pv 6) (pv 12) (by intro _ _; rfl)) pa_nil)))
      (pss_mid (ps_if (PW.pt (pw_and (pt_cmpR op_ne (pv 8) pe_str (nomark _)) (pw_and1 (pt_cmpR (kOp (K := K) rNeD (op_neD hr.units)) (pv 13) (pe_lst pa_nil) (nomark _))))) (pss_one (ps_set (i := 13) sc_law_firsts.nd rfl (Or.inl rfl) (pe_lst (pa_cons (pe_slice sl_str (pv 8) po_none (po_some pe_int)) pa_nil)))) pss_nil)
      (pss_one (ps_for PassesOwn.never (by rfl) (kPI (K := K) (fun k => iList k _) (pi_list (pv 13))) (pg_name (i := 14) sc_law_firsts.nd rfl (Or.inl rfl)) (pss_one (ps_if (pt_cmp (pc_dnotin (hu_of hr) (pv 14) (pe_ix (kIx (K := K) rIxL ix_list) (pv 6) (pv 10) (by intro _ _; rfl)))) (pss_cons (ps_dput (hu_of hr) (pe_ix (kIx (K := K) rIxL ix_list) (pv 6) (pv 10) (by intro _ _; rfl)) (pv 14) pe_bl rfl)
      (pss_one (ps_set (i := 9) sc_law_firsts.nd rfl (Or.inl rfl) pe_bl))) pss_nil))))))))))
      (pss_one (ps_ret (pv 6)))))))), ?_⟩
  obtain ⟨a, xb, xs, xe, rfl, h1, h2, h3, h4, h5, h6, h7⟩ := hV
  obtain ⟨nr, hnr⟩ := Int.eq_ofNat_of_zero_le r0
  have hnt : e.rooms.toNat = nr := by omega
  have lA := letA_len okR
  refine ⟨_, rfl, a, _, rfl, h1, rfl, _, _, rfl, _, _, rfl, _, _, rfl, _, _, rfl, _, _, rfl, rfl, ?_⟩
  refine ⟨_, rfl, _, rfl, by omega, by omega, ?_⟩
  rw [hnr]
  refine comp_range (fun i ys τ H' => Same H H' ∧ (∃ x, τ = [x]) ∧ i ≤ 64 ∧ ∃ ds : List Addr, ys = ds.map V.ref ∧ FdOk H H' ds (List.replicate i [])) ⟨Same.refl _, ⟨_, rfl⟩, Nat.zero_le _, [], rfl, ⟨rfl, List.Pairwise.nil, (fun d hd => nomatch hd), fun i d L z => by simp at z⟩⟩ ?_ ?_
  · rintro i ys τ H1 hi ⟨g1, ⟨x, rfl⟩, hi6, ds, rfl, fd⟩
    refine fun d hd => ?_
    have gd := same_new hd (.dK [])
    have hl := fd.len
    rw [List.length_replicate] at hl
    refine ⟨szl' (by rw [List.length_map]; omega), g1.trans gd, ⟨_, rfl⟩, by omega, ds ++ [d], by rw [List.map_append]; rfl, ?_⟩
    have fd2 := fd.mono gd
    refine ⟨by rw [List.length_append, List.length_replicate, hl]; rfl, nodup_snoc fd.nd fun hm => ?_, fun d' hd' => ?_, fun j d' L' h8 h9 => ?_⟩
    · obtain ⟨j, hj⟩ := List.getElem?_of_mem hm
      have hjl : j < i := by rw [← hl]; exact (List.getElem?_eq_some_iff.mp hj).1
      obtain ⟨k, ek, _⟩ := fd.at' j d [] hj (by rw [List.getElem?_replicate, if_pos hjl])
      rw [hd] at ek; cases ek
    · rcases List.mem_append.mp hd' with z | z
      · exact fd.fr d' z
      · rw [List.mem_singleton.mp z]; exact g1.free hd
    · have hL : L' = [] := by rw [List.getElem?_replicate] at h9; split at h9 <;> simp_all
      subst hL
      by_cases c : j < ds.length
      · rw [List.getElem?_append_left c] at h8
        exact fd2.at' j d' [] h8 (by rw [List.getElem?_replicate, if_pos (by omega)])
      · rw [List.getElem?_append_right (by omega)] at h8
        have h8 := List.mem_of_getElem? h8
        rw [List.mem_singleton] at h8
        subst h8
        exact ⟨[], upd_same, rfl⟩
  rintro ys τ H1 ⟨g1, _, _, ds, rfl, fd⟩ l hl
  have gl := same_new hl (.lst (ds.map V.ref))
  have el := upd_same (H := H1) (a := l) (o := .lst (ds.map V.ref))
  have hlH : H l = none := g1.free hl
  have g2 := g1.trans gl
  have fd := fd.mono gl
  generalize upd H1 l (.lst (ds.map V.ref)) = H2 at el g2 fd ⊢
  have hnl : ((nr : Nat) : Int).toNat = nr := rfl
  rw [hnl] at fd
  have fI : FI e (List.replicate nr []) := ⟨by rw [List.length_replicate]; omega, fun L hL => by rw [List.eq_of_mem_replicate hL]; exact List.Pairwise.nil, fun L hL c hc => by rw [List.eq_of_mem_replicate hL] at hc; cases hc⟩
  have notl : ∀ {H3 : Hp} {d : Addr} {kvs : List (Key × V)}, H3 l = some (.lst (ds.map V.ref)) → H3 d = some (.dK kvs) → l ≠ d := fun h8 h9 z => by rw [z, h9] at h8; cases h8
  refine ⟨_, rfl, pe, rfl, ⟨xe, g2.seq h4⟩, ?_⟩
  refine for_list (xs := xe) (fun i σ H' => Same H H' ∧ i ≤ xe.length ∧ H' l = some (.lst (ds.map V.ref)) ∧ (∃ x7 x8, σ = [some (.ref a), some (.str e.signs), some (.int (nr : Int)), some (.ref pb), some (.ref ps), some (.ref pe), some (.ref l), x7, x8, none, none, none, none, none, none]) ∧ ∃ F, FdOk H H' ds F ∧ FI e F ∧ ∀ m ∈ e.ends.take i, fst1 m.2 ∈ atF F m.1)
    ⟨g2, Nat.zero_le _, el, ⟨_, _, rfl⟩, _, fd, fI, fun m hm => by simp at hm⟩ (fun i σ H' _ z => z.1.seq h4) ?_ ?_
  · rintro i y σ H3 hy ⟨g3, hi, el3, ⟨x7, x8, rfl⟩, F, fd3, fI3, hE⟩
    obtain ⟨m, hm, b, rfl, hb⟩ := paired_get h7 hy
    have hmm := List.mem_of_getElem? hm
    have hil : i < xe.length := (List.getElem?_eq_some_iff.mp hy).1
    obtain ⟨m0, m1⟩ := okR.me m hmm
    obtain ⟨d, L0, kvs, hd1, hL1, hat, hkd, hkk, hix, hd0⟩ := fd3.get fI3 m0 m1
    have hkl : kvs.length ≤ 1998 := by
      have e1 := congrArg List.length hkk
      rw [List.length_map, List.length_map] at e1
      have := fI3.size L0 (List.mem_of_getElem? hL1)
      omega
    have hwe := wl.we m hmm
    refine ⟨b, _, rfl, Same.seqT g3 hb, rfl, _, _, rfl, _, _, rfl, rfl, ?_⟩
    refine ⟨_, rfl, _, rfl, l, _, _, _, rfl, rfl, SqL.of el3, hix, _, rfl, _, rfl, _, rfl, szl (by omega), d, _, rfl, DPut.k (k := Sum.inr (fst1 m.2)) (v := .bl true) hkd (szl' (by omega)), ?_⟩
    refine ⟨same_updN g3 hd0, hil, (upd_ne (notl el3 hkd)).trans el3, ⟨_, _, rfl⟩, _, fd3.put hd1 hL1 hkk, fI3.put hL1 (letA_e hmm), fun m' hm' => ?_⟩
    rw [take_get hm] at hm'
    rcases List.mem_append.mp hm' with z | z
    · exact at_put hL1 (hE m' z)
    · rw [List.mem_singleton.mp z]; exact at_new hL1
  rintro σ H3 ⟨g3, _, el3, ⟨x7, x8, rfl⟩, F0, fd3, fI3, hE0⟩
  rw [← h7.length, List.take_length] at hE0
  refine ⟨fun mm σ H' => Same H H' ∧ H' l = some (.lst (ds.map V.ref)) ∧ ∃ (gr : Bool) (F : List (List Str)) (x7 x8 x10 x11 x12 x13 x14 : Option V), mm = (nr * 1998 - totF F) + (if gr = true then 1 else 0) ∧ σ = [some (.ref a), some (.str e.signs), some (.int (nr : Int)), some (.ref pb), some (.ref ps), some (.ref pe), some (.ref l), x7, x8, some (.bl gr), x10, x11, x12, x13, x14] ∧ FdOk H H' ds F ∧ FI e F ∧ (∀ m ∈ e.ends, fst1 m.2 ∈ atF F m.1) ∧ (gr = false → ∀ u ∈ e.steps, Cls F u),
    ⟨_, g3, el3, true, F0, _, _, _, _, _, _, _, rfl, rfl, fd3, fI3, hE0, fun z => nomatch z⟩, ?_⟩
  clear x7 x8 hE0 fI3 fd3 el3 g3
  rintro mm σ H4 ⟨g4, el4, gr, F, x7, x8, x10, x11, x12, x13, x14, rfl, rfl, fd4, fI4, hE4, hC4⟩
  refine ⟨_, rfl, gr, rfl, iteB (fun c => ?_) (fun c => ?_)⟩
  rotate_left
  · subst c
    exact ⟨_, rfl, q l ds F H4 g4 hlH el4 fd4 fI4 (fcl_of fI4 hE4 (hC4 rfl))⟩
  subst c
  refine ⟨_, fun σ' H' z => z, ?_⟩
  have tot4 := fI4.tot
  rw [hnt] at tot4
  have tb : ∀ {F2 : List (List Str)}, FI e F2 → totF F2 ≤ nr * 1998 := fun {F2} h => by
    have := h.tot
    rw [hnt] at this
    exact Nat.le_trans this (Nat.mul_le_mul_left _ lA)
  refine ⟨_, rfl, ps, rfl, ⟨xs, g4.seq h3⟩, ?_⟩
  refine for_list (xs := xs) (fun i σ H' => Same H H' ∧ i ≤ xs.length ∧ H' l = some (.lst (ds.map V.ref)) ∧ ∃ (gr : Bool) (F2 : List (List Str)) (x7 x8 x10 x11 x12 x13 x14 : Option V), σ = [some (.ref a), some (.str e.signs), some (.int (nr : Int)), some (.ref pb), some (.ref ps), some (.ref pe), some (.ref l), x7, x8, some (.bl gr), x10, x11, x12, x13, x14] ∧ FdOk H H' ds F2 ∧ FI e F2 ∧ (∀ m ∈ e.ends, fst1 m.2 ∈ atF F2 m.1) ∧ totF F ≤ totF F2 ∧ (gr = true → totF F < totF F2) ∧ (gr = false → F2 = F ∧ ∀ u ∈ e.steps.take i, Cls F u))
    ⟨g4, Nat.zero_le _, el4, false, F, _, _, _, _, _, _, _, rfl, fd4, fI4, hE4, Nat.le_refl _, (fun z => nomatch z), fun _ => ⟨rfl, fun u hu => by simp at hu⟩⟩ (fun i σ H' _ z => z.1.seq h3) ?_ ?_
  · rintro i y σ H5 hy ⟨g5, hi, el5, gr, F2, x7, x8, x10, x11, x12, x13, x14, rfl, fd5, fI5, hE5, hle5, hlt5, hC5⟩
    obtain ⟨u, hu, b, rfl, hb⟩ := paired_get h6 hy
    have hum := List.mem_of_getElem? hu
    have hil : i < xs.length := (List.getElem?_eq_some_iff.mp hy).1
    obtain ⟨u0, u1, u2, u3⟩ := okR.ms u hum
    have hws := wl.ws u hum
    obtain ⟨dh, Lh, kvh, hdh, hLh, hath, hkh, hkkh, hixh, _⟩ := fd5.get fI5 u2 u3
    refine ⟨b, _, rfl, Same.seqT g5 hb, rfl, _, _, rfl, _, _, rfl, _, _, rfl, _, _, rfl, rfl, ?_⟩
    refine ⟨_, rfl, _, rfl, l, _, _, _, rfl, rfl, SqL.of el5, hixh, dh, rfl, .inl ⟨kvh, hkh, fun lm hlm => ?_⟩⟩
    have hkL : (kvh.map fun kv => kV kv.1) = Lh.map V.str := by
      have e1 : (kvh.map fun kv => kV kv.1) = (kvh.map (·.1)).map kV := by rw [List.map_map]; rfl
      rw [e1, hkkh, List.map_map]; rfl
    rw [hkL]
    have gm := same_new hlm (.lst (Lh.map V.str))
    have em := upd_same (H := H5) (a := lm) (o := .lst (Lh.map V.str))
    have g6 := g5.trans gm
    have el6 := gm _ _ el5
    have fd6 := fd5.mono gm
    generalize upd H5 lm (.lst (Lh.map V.str)) = H6 at em g6 el6 fd6 ⊢
    refine ⟨fun σ H' => Same H H' ∧ H' l = some (.lst (ds.map V.ref)) ∧ FdOk H H' ds F2 ∧ ∃ (la : Addr) (M : List Str), H' la = some (.lst (M.map V.str)) ∧ (∀ c ∈ M, c ∈ letA e) ∧ M.length ≤ 1998 ∧ ((u.2.2.1 ≠ "" → Lh ≠ [] → fst1 u.2.2.1 ∈ M) ∧ (u.2.2.1 = "" → M = Lh)) ∧ σ = [some (.ref a), some (.str e.signs), some (.int (nr : Int)), some (.ref pb), some (.ref ps), some (.ref pe), some (.ref l), x7, some (.str u.2.2.1), some (.bl gr), some (.int u.1), some (.str u.2.1), some (.int u.2.2.2), some (.ref la), x14], ?_, ?_⟩
    · have hLm := List.mem_of_getElem? hLh
      have hsz := fI5.size Lh hLm
      refine ⟨_, rfl, rfl, _, rfl, iteNd (fun c1 => ?_) (fun c1 => ?_)⟩
      · have hne : u.2.2.1 ≠ "" := fun z => c1 (by rw [z])
        refine ⟨_, rfl, szl (by simp), fun l2 hl2 => ?_⟩
        have g2l := same_new hl2 (.lst [])
        refine ⟨.lst (Lh.map D.str), .lst [], rep_lst (SqL.of (g2l _ _ em)) (reps_strs33 Lh), rep_lst (SqL.of upd_same) .nil, by simp only [deep, deeps_strs33]; omega, _, rfl, ?_⟩
        have g7 := g6.trans g2l
        have el7 := g2l _ _ el6
        have fd7 := fd6.mono g2l
        have em7 := g2l _ _ em
        generalize upd H6 l2 (.lst []) = H7 at g7 el7 fd7 em7 ⊢
        cases hLL : Lh with
        | nil =>
          rw [hLL] at em7
          exact iteF ⟨g7, el7, fd7, lm, [], em7, (fun c hc => nomatch hc), Nat.zero_le _, ⟨fun _ z => absurd rfl z, fun _ => rfl⟩, rfl⟩
        | cons c0 L0 =>
          refine iteT ?_
          refine ⟨_, rfl, _, rfl, _, rfl, szl (by omega), szl (by simp), fun l3 hl3 => ?_⟩
          have g3l := same_new hl3 (.lst [V.str (fst1 u.2.2.1)])
          exact ⟨g7.trans g3l, g3l _ _ el7, fd7.mono g3l, l3, [fst1 u.2.2.1], upd_same, (fun c hc => by rw [List.mem_singleton.mp hc]; exact letA_s hum), by simp, ⟨fun _ _ => List.mem_singleton.mpr rfl, fun z => absurd z hne⟩, rfl⟩
      · have hq : u.2.2.1 = "" := by injection c1
        exact ⟨g6, el6, fd6, lm, Lh, em, fI5.sub Lh hLm, by omega, ⟨fun z => absurd hq z, fun _ => rfl⟩, rfl⟩
    rintro σ H7 ⟨g7, el7, fd7, la, M, eM, hMs, hMl, ⟨hM1, hM2⟩, rfl⟩
    refine ⟨_, rfl, la, rfl, ⟨_, SqL.of eM⟩, ?_⟩
    have nla : ∀ {H3 : Hp} {d : Addr} {kvs : List (Key × V)}, H3 la = some (.lst (M.map V.str)) → H3 d = some (.dK kvs) → la ≠ d := fun h8 h9 z => by rw [z, h9] at h8; cases h8
    refine for_list (xs := M.map V.str) (fun j σ H' => Same H H' ∧ j ≤ M.length ∧ H' l = some (.lst (ds.map V.ref)) ∧ H' la = some (.lst (M.map V.str)) ∧ ∃ (gr3 : Bool) (F3 : List (List Str)) (x14 : Option V), σ = [some (.ref a), some (.str e.signs), some (.int (nr : Int)), some (.ref pb), some (.ref ps), some (.ref pe), some (.ref l), x7, some (.str u.2.2.1), some (.bl gr3), some (.int u.1), some (.str u.2.1), some (.int u.2.2.2), some (.ref la), x14] ∧ FdOk H H' ds F3 ∧ FI e F3 ∧ (∀ m ∈ e.ends, fst1 m.2 ∈ atF F3 m.1) ∧ totF F ≤ totF F3 ∧ (gr3 = true → totF F < totF F3) ∧ (gr3 = false → gr = false ∧ F3 = F2 ∧ ∀ c ∈ M.take j, c ∈ atF F2 u.1))
      ⟨g7, Nat.zero_le _, el7, eM, gr, F2, _, rfl, fd7, fI5, hE5, hle5, hlt5, fun z => ⟨z, rfl, fun c hc => by simp at hc⟩⟩ (fun j σ H' _ z => SqL.of z.2.2.2.1) ?_ ?_
    · rintro j y σ H8 hy ⟨g8, hj, el8, eM8, gr3, F3, x14, rfl, fd8, fI8, hE8, hle8, hlt8, hC8⟩
      rw [List.getElem?_map] at hy
      obtain ⟨c, hc, rfl⟩ := Option.map_eq_some_iff.mp hy
      have hjl : j < M.length := (List.getElem?_eq_some_iff.mp hc).1
      have hcA := hMs c (List.mem_of_getElem? hc)
      obtain ⟨d, L3, kvs, hd1, hL1, hat, hkd, hkk, hix, hd0⟩ := fd8.get fI8 u0 u1
      have hsz := fI8.size L3 (List.mem_of_getElem? hL1)
      have hkl : kvs.length ≤ 1998 := by
        have e1 := congrArg List.length hkk
        rw [List.length_map, List.length_map] at e1
        omega
      have hmem : (valV kvs (Sum.inr c)).isSome = true ↔ c ∈ L3 := by
        rw [val_key, hkk, List.mem_map]
        exact ⟨fun ⟨x, h1, h2⟩ => by injection h2 with h2; exact h2 ▸ h1, fun h => ⟨c, h, rfl⟩⟩
      refine ⟨_, rfl, _, rfl, _, rfl, l, _, _, _, rfl, rfl, SqL.of el8, hix, d, _, rfl, DGet.k (k := Sum.inr c) hkd, _, rfl, ?_⟩
      cases hv : valV kvs (Sum.inr c) with
      | some v0 =>
        rw [hv] at hmem
        have hin := hmem.mp rfl
        refine iteF ⟨g8, hjl, el8, eM8, gr3, F3, _, rfl, fd8, fI8, hE8, hle8, hlt8, fun z => ?_⟩
        obtain ⟨z1, rfl, z3⟩ := hC8 z
        refine ⟨z1, rfl, fun c' hc' => ?_⟩
        rw [take_get hc] at hc'
        rcases List.mem_append.mp hc' with z | z
        · exact z3 c' z
        · rw [List.mem_singleton.mp z, hat]; exact hin
      | none =>
        rw [hv] at hmem
        have hnin : c ∉ L3 := fun z => by have := hmem.mpr z; cases this
        refine iteT ?_
        refine ⟨_, rfl, _, rfl, l, _, _, _, rfl, rfl, SqL.of el8, hix, _, rfl, d, _, rfl, DPut.k (k := Sum.inr c) (v := .bl true) hkd (szl' (by omega)), ?_⟩
        have ht := tot_set (L' := addM L3 c) hL1
        rw [add_len hnin] at ht
        exact ⟨same_updN g8 hd0, hjl, (upd_ne (notl el8 hkd)).trans el8, (upd_ne (nla eM8 hkd)).trans eM8, true, _, _, rfl, fd8.put hd1 hL1 hkk, fI8.put hL1 hcA, fun m hm => at_put hL1 (hE8 m hm), by omega, fun _ => by omega, fun z => nomatch z⟩
    rintro σ H8 ⟨g8, _, el8, _, gr3, F3, x14, rfl, fd8, fI8, hE8, hle8, hlt8, hC8⟩
    refine ⟨g8, hil, el8, gr3, F3, _, _, _, _, _, _, _, rfl, fd8, fI8, hE8, hle8, hlt8, fun z => ?_⟩
    obtain ⟨z1, rfl, z3⟩ := hC8 z
    obtain ⟨rfl, z4⟩ := hC5 z1
    rw [List.length_map, List.take_length] at z3
    refine ⟨rfl, fun u' hu' => ?_⟩
    rw [take_get hu] at hu'
    rcases List.mem_append.mp hu' with z | z
    · exact z4 u' z
    · rw [List.mem_singleton.mp z]
      exact ⟨fun y1 y2 => z3 _ (hM1 y1 (by rw [← hath]; exact y2)), fun y1 c hc => z3 c (by rw [hM2 y1, ← hath]; exact hc)⟩
  rintro σ H5 ⟨g5, _, el5, gr, F2, x7, x8, x10, x11, x12, x13, x14, rfl, fd5, fI5, hE5, hle5, hlt5, hC5⟩
  have t5 := tb fI5
  cases gr with
  | true => exact ⟨_, by have := hlt5 rfl; show nr * 1998 - totF F2 + 1 < nr * 1998 - totF F + 1; omega, g5, el5, true, F2, _, _, _, _, _, _, _, rfl, rfl, fd5, fI5, hE5, fun z => nomatch z⟩
  | false =>
    obtain ⟨rfl, z⟩ := hC5 rfl
    rw [← h6.length, List.take_length] at z
    exact ⟨_, by show nr * 1998 - totF F2 + 0 < nr * 1998 - totF F2 + 1; omega, g5, el5, false, F2, _, _, _, _, _, _, _, rfl, rfl, fd5, fI5, hE5, fun _ => z⟩
theorem sc_law : FnScope ["_law_script", "_law_scribe", "_law_found", "_law_firsts_here", "_law_text_here"] ["_law_script"] (defScope s_law) := ⟨rfl, rfl, rfl, by decide +kernel, rfl, by decide +kernel, by decide +kernel⟩
theorem ok_law (B : Bi mg) {c_NotPlain : Addr} (XB : Xb K mg c_NotPlain) (C_law_plain : Cal P w K mg base "_law_plain" ["_law_script", "_law_salt", "_law_most"] 3 (spDrawP K)) (C_earliest_of : Cal1 P w K mg base "earliest_of" ["scribe"] 7 (spEarliest K c_NotPlain)) (C_law_firsts : Cal P w K mg base "_law_firsts" ["_law_found"] 1 (spFirsts K)) (C_law_text : Cal P w K mg base "_law_text" ["_law_script", "_law_signs_here", "_law_most"] 2 (spText5 K)) (C_law_follow : Cal P w K mg base "_law_follow" ["_law_scribe", "_law_script", "_law_most"] 2 (spFollow K)) (C_law_is_scribe : Cal P w K mg base "_law_is_scribe" ["_law_found"] 2 (spIsScr K)) (C_law_rooms_good : Cal P w K mg base "_law_rooms_good" ["_law_found"] 1 (spGood K)) (C_law_run : Cal P w K mg base "_law_run" ["_law_scribe", "_law_text_here"] 1 (spRun K)) {f : Addr} {fd : FuncData} (F : Fun K "law" "law" s_law f fd) : FnOk P w K mg base CX0 8 f fd ["_law_script"] (spLaw K) := by
  refine F.ok sc_law (fun vs H Q E h => ?_) (fun cdv A outer s H vs Q E hr h => ?_)
  · obtain ⟨a, ns, rfl, _⟩ := h; rfl
  obtain ⟨a, ns, rfl, hS, h63, q⟩ := h
  refine ⟨_, (pss_cons (ps_set (i := 1) sc_law.nd rfl (Or.inl rfl) (pe_fn C_law_plain hr (by decide : 3 ≤ 7) (by rfl) (pa_cons (pv 0) (pa_cons pe_int (pa_cons pe_int pa_nil)))))
      (pss_cons (ps_set (i := 2) sc_law.nd rfl (Or.inl rfl) (pe_fn1 C_earliest_of hr (by decide : 7 ≤ 7) (by rfl) pass_no (pa_cons (pv 1) pa_nil)))
      (pss_cons (ps_if (PW.pt (pw_or (pt_not (pt_val (pe_fn C_law_is_scribe hr (by decide : 2 ≤ 7) (by rfl) (pa_cons (pv 2) pa_nil)))) (pw_or (pt_cmpR op_ne (pe_ix (kIx (K := K) rIxT ix_tup) (pv 2) pe_int (by intro _ _; rfl)) (pe_ix (kIx (K := K) rIxT ix_tup) (pv 1) pe_int (by intro _ _; rfl)) (nomark _)) (pw_or1 (pt_not (pt_val (pe_fn C_law_rooms_good hr (by decide : 1 ≤ 7) (by rfl) (pa_cons (pv 2) pa_nil)))))))) (pss_one (ps_ret pe_bl)) pss_nil)
      (pss_cons (ps_for PassesOwn.never (by rfl) (kPI (K := K) (fun k => iList k _) (pi_list (pe_fn C_law_firsts hr (by decide : 1 ≤ 7) (by rfl) (pa_cons (pv 2) pa_nil)))) (pg_name (i := 3) sc_law.nd rfl (Or.inl rfl)) (pss_one (ps_if (PW.pt (pw_and (pt_cmp (pc_dnotin (hu_of hr) pe_str (pv 3))) (pw_and1 (pt_cmpR op_lt (pe_callB call_len_d (by rfl) B.len bt_len (pa_cons (pv 3) pa_nil)) pe_int (nomark _))))) (pss_one (ps_ret pe_bl)) pss_nil)))
      (pss_cons (ps_for PassesOwn.never (by rfl) (kPI (K := K) (fun k => iList k _) (pi_list (pe_lst (pa_cons (pe_fn C_law_text hr (by decide : 2 ≤ 7) (by rfl) (pa_cons (pv 0) (pa_cons (pe_ix (kIx (K := K) rIxT ix_tup) (pv 1) pe_int (by intro _ _; rfl)) (pa_cons pe_int pa_nil)))) (pa_cons (pe_fn C_law_follow hr (by decide : 2 ≤ 7) (by rfl) (pa_cons (pv 1) (pa_cons (pv 0) (pa_cons pe_int pa_nil)))) pa_nil))))) (pg_name (i := 4) sc_law.nd rfl (Or.inl rfl)) (pss_one (ps_if (pt_cmpR (kOp (K := K) rNeD (op_neD hr.units)) (pe_fn C_law_run hr (by decide : 1 ≤ 7) (by rfl) (pa_cons (pv 2) (pa_cons (pv 4) pa_nil))) (pe_fn C_law_run hr (by decide : 1 ≤ 7) (by rfl) (pa_cons (pv 1) (pa_cons (pv 4) pa_nil))) (nomark _)) (pss_one (ps_ret pe_bl)) pss_nil)))
      (pss_one (ps_ret pe_bl))))))), ?_⟩
  refine ⟨_, rfl, a, ns, 1000, 10, rfl, hS, h63, by decide, by decide, by decide, by decide, fun v1 H1 s pb ps pe ⟨g1, hV1, ok1, r0, r1, sg1, sg2, sg3, sg4⟩ => ?_⟩
  have okR : OkR s := okR_of ok1 r1
  have hPl := plain_of ok1
  have wl : WdL s 40 := ⟨fun m hm => (ok1.mb m hm).2.2.1, fun t ht => (ok1.ms t ht).2.2.2.1.1, fun m hm => (ok1.me m hm).2.2.1⟩
  have r64 : s.rooms < 64 := by omega
  refine ⟨_, rfl, v1, s, pb, ps, pe, 40, rfl, hV1, okR, r0, r64, wl, ⟨by omega, by decide⟩, fun _ vf H2 pbf psf pef W hW hlen g2 hNf ap => ?_, fun z => (by rw [hPl] at z; cases z)⟩
  obtain ⟨t, et⟩ : ∃ t, t = trimS s := ⟨_, rfl⟩
  have okT : OkR t := by rw [et]; exact trim_ok okR r64
  have rT := trim_rooms s
  have rT0 : 0 ≤ t.rooms := by rw [et]; show (0 : Int) ≤ ((useL s).length : Int); omega
  have hVf := hNf.v
  obtain ⟨e, ee⟩ : ∃ e, e = earlW t W := ⟨_, rfl⟩
  rw [← et, ← ee] at hNf hVf
  rw [← et] at hW rT
  have okE : OkR e := by rw [ee]; exact early_ok W okT
  have rE : e.rooms = t.rooms := by rw [ee]; rfl
  have plE : plainB e = true := by rw [ee, et]; exact early_plain _ (trim_plain hPl)
  have wlE : WdL e 600 := by
    have := early_wl (t := t) (W := W) (n := 40) (m := 560) (by rw [et]; exact trim_wl wl) fun r => by
      unfold hdW
      cases c : lookW W r with
      | none => exact Nat.zero_le _
      | some a => exact Nat.le_trans (hlen r a c) (by omega)
    rw [ee]; exact this
  have sgE : e.signs = s.signs := by rw [ee, et]; rfl
  have uT : ∀ r, 0 ≤ r → r < t.rooms → Use t r := fun r a b => by rw [et] at b ⊢; exact trim_used okR a b
  have hsg : ∀ u ∈ e.steps, ∃ c ∈ cl e.signs, u.2.1 = ⟨#[c]⟩ := fun u hu => by
    rw [ee] at hu
    obtain ⟨u1, hu1, rfl⟩ := List.mem_map.mp (show u ∈ t.steps.map (eS W) from hu)
    rw [et] at hu1
    obtain ⟨u2, hu2, j, k, _, _, rfl⟩ := mem_keptS.mp hu1
    obtain ⟨c, hc, e1⟩ := (ok1.ms u2 hu2).2.2.1
    exact ⟨c, by rw [sgE]; exact hc, e1⟩
  have hone : ∀ u ∈ s.steps, u.2.1.length ≤ 1 := fun u hu => by
    obtain ⟨c, _, e1⟩ := (ok1.ms u hu).2.2.1
    rw [e1]; exact Nat.le_refl 1
  have keyT : ∀ r, 0 ≤ r → r < t.rooms → ∃ a, lookW W r = some a := fun r a b => look_mem ((hW.keys r).mpr (uT r a b).2)
  have hrun : ∀ x, runS e x = runS s x := fun x => by
    rw [ee, run_early hW (fun u hu => ⟨keyT _ (okT.ms u hu).1 (okT.ms u hu).2.1, keyT _ (okT.ms u hu).2.2.1 (okT.ms u hu).2.2.2⟩) (fun m hm => keyT _ (okT.me m hm).1 (okT.me m hm).2) x, et]
    exact run_trim okR hPl x
  refine ⟨_, rfl, vf, e, pbf, psf, pef, rfl, hVf, fun H3 g3 => ⟨_, rfl, iteF ?_⟩⟩
  have hV13 := hV1.mono (g2.trans g3)
  have hV33 := hVf.mono g3
  obtain ⟨av, yb, ys, ye, rfl, t1, _⟩ := id hV33
  obtain ⟨bv, zb, zs, ze, rfl, t2, _⟩ := id hV13
  refine ⟨_, rfl, av, _, _, _, rfl, rfl, t1, rfl, _, rfl, bv, _, _, _, rfl, rfl, t2, rfl, rfl, _, rfl, iteNd (fun c => absurd (by rw [sgE]) c) (fun _ => ?_)⟩
  refine ⟨_, rfl, _, e, pbf, psf, pef, rfl, hNf.mono g3, okE, plE, hsg, fun H4 g4 => ⟨_, rfl, iteF ?_⟩⟩
  have hV34 := hV33.mono g4
  have hV14 := hV13.mono g4
  refine ⟨_, rfl, _, e, pbf, psf, pef, 600, rfl, hV34, okE, wlE, by decide, by omega, by omega, fun l ds F H5 g5 hl el fd fI fc => ⟨l, rfl, ⟨_, SqL.of el⟩, ?_⟩⟩
  refine for_list (xs := ds.map V.ref) (fun i σ H' => H5 = H' ∧ ∃ x3, σ = [some (.ref a), some (.ref bv), some (.ref av), x3, none]) ⟨rfl, _, rfl⟩ (fun i σ H' _ z => z.1 ▸ SqL.of el) ?_ ?_
  · rintro i y σ _ hy ⟨rfl, x3, rfl⟩
    rw [List.getElem?_map] at hy
    obtain ⟨d, hd, rfl⟩ := Option.map_eq_some_iff.mp hy
    have hil : i < ds.length := (List.getElem?_eq_some_iff.mp hd).1
    have hiF : i < F.length := by rw [← fd.len]; exact hil
    have hir : (i : Int) < e.rooms := by have := fI.len; omega
    obtain ⟨kvs, hkd, hkk⟩ := fd.at' i d _ hd (List.getElem?_eq_getElem hiF)
    have hat : atF F (i : Int) = F[i] := by unfold atF; rw [Int.toNat_natCast, List.getElem?_eq_getElem hiF]; rfl
    have good := firsts_good hW (F := atF F) (ee ▸ fc) (r := (i : Int)) (uT _ (by omega) (by omega)).2
    rw [hat] at good
    have hkl : kvs.length = F[i].length := by
      have e1 := congrArg List.length hkk
      rw [List.length_map, List.length_map] at e1; exact e1
    refine ⟨_, rfl, d, _, rfl, DGet.k (k := Sum.inr "") hkd, _, rfl, ?_⟩
    cases hv : valV kvs (Sum.inr ("" : Str)) with
    | some v0 => exact iteF ⟨rfl, _, rfl⟩
    | none =>
      refine iteT ?_
      have h2 : 2 ≤ F[i].length := good.elim (fun z => by
        exfalso
        have : (valV kvs (Sum.inr ("" : Str))).isSome = true := val_key.mpr (by rw [hkk]; exact List.mem_map.mpr ⟨_, z, rfl⟩)
        rw [hv] at this; cases this) id
      exact ⟨_, rfl, d, _, rfl, .inl ⟨kvs, hkd, rfl⟩, _, _, rfl, rfl, _, rfl, iteDd (fun c => absurd c (by omega)) (fun _ => ⟨rfl, _, rfl⟩)⟩
  rintro σ _ ⟨rfl, x3, rfl⟩
  have hV35 := hV34.mono g5
  have hV15 := hV14.mono g5
  have hS5 := ((((g1.trans g2).trans g3).trans g4).trans g5).seq hS
  refine ⟨_, rfl, _, rfl, bv, _, _, _, rfl, rfl, Same.seqT (g4.trans g5) t2, rfl, a, ns, s.signs, 30, rfl, hS5, by omega, by omega, by decide, by decide, fun x1 hx1 => ?_⟩
  refine ⟨_, rfl, _, rfl, _, s, pb, ps, pe, a, ns, 30, rfl, hV15, okR, hS5, by decide, by decide, hone, fun x2 H6 hx2 g6 => ⟨szl (by simp), fun p hp => ⟨p, rfl, ⟨_, SqL.of upd_same⟩, ?_⟩⟩⟩
  have gp := same_new hp (.lst [V.str x1, V.str x2])
  have ep := upd_same (H := H6) (a := p) (o := .lst [V.str x1, V.str x2])
  have hV36 := hV35.mono (g6.trans gp)
  have hV16 := hV15.mono (g6.trans gp)
  generalize upd H6 p (.lst [V.str x1, V.str x2]) = H7 at ep hV36 hV16 ⊢
  refine for_list (xs := [x1, x2].map V.str) (fun i σ H' => Same H7 H' ∧ ∃ x4, σ = [some (.ref a), some (.ref bv), some (.ref av), x3, x4]) ⟨Same.refl _, _, rfl⟩ (fun i σ H' _ z => z.1.seq (SqL.of ep)) ?_ ?_
  · rintro i y σ H8 hy ⟨g8, x4, rfl⟩
    rw [List.getElem?_map] at hy
    obtain ⟨x, hx, rfl⟩ := Option.map_eq_some_iff.mp hy
    have hxl : x.length ≤ 50 := by
      have := List.mem_of_getElem? hx
      simp only [List.mem_cons, List.not_mem_nil, or_false] at this
      rcases this with rfl | rfl
      · exact hx1
      · exact hx2
    refine ⟨_, rfl, _, rfl, _, e, pbf, psf, pef, x, 600, rfl, hV36.mono g8, okE, wlE, by decide, hxl, fun H9 g9 => ?_⟩
    refine ⟨_, rfl, _, rfl, _, s, pb, ps, pe, x, 40, rfl, (hV16.mono g8).mono g9, okR, wl, by decide, hxl, fun H10 g10 => ?_⟩
    rw [hrun x]
    refine ⟨dOp (runS s x), dOp (runS s x), rep_op _, rep_op _, deep_op _, _, rfl, ?_⟩
    rw [eqD_refl]
    exact iteF ⟨(g8.trans g9).trans g10, _, rfl⟩
  rintro σ H8 ⟨_, x4, rfl⟩
  exact q _
end
theorem len_1 {α : Type} : ∀ {us : List α} (_ : us.length = 1), ∃ u0, us = [u0]
  | [u0], _ => ⟨u0, rfl⟩
theorem len_2 {α : Type} : ∀ {us : List α} (_ : us.length = 2), ∃ u0 u1, us = [u0, u1]
  | [u0, u1], _ => ⟨u0, u1, rfl⟩
theorem len_3 {α : Type} : ∀ {us : List α} (_ : us.length = 3), ∃ u0 u1 u2, us = [u0, u1, u2]
  | [u0, u1, u2], _ => ⟨u0, u1, u2, rfl⟩
theorem len_4 {α : Type} : ∀ {us : List α} (_ : us.length = 4), ∃ u0 u1 u2 u3, us = [u0, u1, u2, u3]
  | [u0, u1, u2, u3], _ => ⟨u0, u1, u2, u3, rfl⟩
theorem all_mk {l : PySem.W.OpenLaw} {w : World} {K : Frag} {h : Heap} {mg : Str → Option Value} {fa f0 f1 f2 f3 f4 f5 f6 f7 f8 f9 f10 f11 f12 f13 f14 f15 f16 f17 f18 f19 f20 f21 f22 f23 f24 f25 f26 f27 f28 f29 f30 f31 f32 c_NotPlain : Addr} (X : K.In h) (G : h.Ns mainGlobals mg) (hfa : mg "law" = some (.ref fa))
    {od0 an0 od1 an1 od2 an2 od3 an3 od4 an4 od5 an5 od6 an6 od7 an7 od8 an8 od9 an9 od10 an10 od11 an11 od12 an12 od13 an13 od14 an14 od15 an15 od16 an16 od17 an17 od18 an18 od19 an19 od20 an20 od21 an21 od22 an22 od23 an23 od24 an24 od25 an25 od26 an26 od27 an27 od28 an28 od29 an29 od30 an30 od31 an31 od32 an32 : Option Addr} {sl0 sl1 sl2 sl3 sl4 sl5 sl6 sl7 sl8 sl9 sl10 sl11 sl12 sl13 sl14 sl15 sl16 sl17 sl18 sl19 sl20 sl21 sl22 sl23 sl24 sl25 sl26 sl27 sl28 sl29 sl30 sl31 sl32 : Array (Option Value)} {oc0 kV0 dc0 pm0 cd0 ct0 oc1 kV1 dc1 pm1 cd1 ct1 oc2 kV2 dc2 pm2 cd2 ct2 oc3 kV3 dc3 pm3 cd3 ct3 oc4 kV4 dc4 pm4 cd4 ct4 oc5 kV5 dc5 pm5 cd5 ct5 oc6 kV6 dc6 pm6 cd6 ct6 oc7 kV7 dc7 pm7 cd7 ct7 oc8 kV8 dc8 pm8 cd8 ct8 oc9 kV9 dc9 pm9 cd9 ct9 oc10 kV10 dc10 pm10 cd10 ct10 oc11 kV11 dc11 pm11 cd11 ct11 oc12 kV12 dc12 pm12 cd12 ct12 oc13 kV13 dc13 pm13 cd13 ct13 oc14 kV14 dc14 pm14 cd14 ct14 oc15 kV15 dc15 pm15 cd15 ct15 oc16 kV16 dc16 pm16 cd16 ct16 oc17 kV17 dc17 pm17 cd17 ct17 oc18 kV18 dc18 pm18 cd18 ct18 oc19 kV19 dc19 pm19 cd19 ct19 oc20 kV20 dc20 pm20 cd20 ct20 oc21 kV21 dc21 pm21 cd21 ct21 oc22 kV22 dc22 pm22 cd22 ct22 oc23 kV23 dc23 pm23 cd23 ct23 oc24 kV24 dc24 pm24 cd24 ct24 oc25 kV25 dc25 pm25 cd25 ct25 oc26 kV26 dc26 pm26 cd26 ct26 oc27 kV27 dc27 pm27 cd27 ct27 oc28 kV28 dc28 pm28 cd28 ct28 oc29 kV29 dc29 pm29 cd29 ct29 oc30 kV30 dc30 pm30 cd30 ct30 oc31 kV31 dc31 pm31 cd31 ct31 oc32 kV32 dc32 pm32 cd32 ct32 : Value}
    (a0 : nsIn K mainGlobals "all_unlike" = some (some (.ref f0))) (l0 : K.lookup f0 = some ⟨oc0, od0, .func (fnOf "all_unlike" "all_unlike" (defArgs s_all_unlike) (defBody s_all_unlike) (defScope s_all_unlike) .none kV0 dc0 pm0 an0 cd0 ct0), sl0⟩) (c0 : codeIn K cd0 "all_unlike" = true) (k0 : keepIn K (.ref f0) = true)
    (a1 : nsIn K mainGlobals "is_plain" = some (some (.ref f1))) (l1 : K.lookup f1 = some ⟨oc1, od1, .func (fnOf "is_plain" "is_plain" (defArgs s_is_plain) (defBody s_is_plain) (defScope s_is_plain) .none kV1 dc1 pm1 an1 cd1 ct1), sl1⟩) (c1 : codeIn K cd1 "is_plain" = true) (k1 : keepIn K (.ref f1) = true)
    (a2 : nsIn K mainGlobals "refuse_choices" = some (some (.ref f2))) (l2 : K.lookup f2 = some ⟨oc2, od2, .func (fnOf "refuse_choices" "refuse_choices" (defArgs s_refuse_choices) (defBody s_refuse_choices) (defScope s_refuse_choices) .none kV2 dc2 pm2 an2 cd2 ct2), sl2⟩) (c2 : codeIn K cd2 "refuse_choices" = true) (k2 : keepIn K (.ref f2) = true)
    (a3 : nsIn K mainGlobals "places_at" = some (some (.ref f3))) (l3 : K.lookup f3 = some ⟨oc3, od3, .func (fnOf "places_at" "places_at" (defArgs s_places_at) (defBody s_places_at) (defScope s_places_at) .none kV3 dc3 pm3 an3 cd3 ct3), sl3⟩) (c3 : codeIn K cd3 "places_at" = true) (k3 : keepIn K (.ref f3) = true)
    (a4 : nsIn K mainGlobals "traces_from" = some (some (.ref f4))) (l4 : K.lookup f4 = some ⟨oc4, od4, .func (fnOf "traces_from" "traces_from" (defArgs s_traces_from) (defBody s_traces_from) (defScope s_traces_from) .none kV4 dc4 pm4 an4 cd4 ct4), sl4⟩) (c4 : codeIn K cd4 "traces_from" = true) (k4 : keepIn K (.ref f4) = true)
    (a5 : nsIn K mainGlobals "traces_from_begins" = some (some (.ref f5))) (l5 : K.lookup f5 = some ⟨oc5, od5, .func (fnOf "traces_from_begins" "traces_from_begins" (defArgs s_traces_from_begins) (defBody s_traces_from_begins) (defScope s_traces_from_begins) .none kV5 dc5 pm5 an5 cd5 ct5), sl5⟩) (c5 : codeIn K cd5 "traces_from_begins" = true) (k5 : keepIn K (.ref f5) = true)
    (a6 : nsIn K mainGlobals "traces_to_ends" = some (some (.ref f6))) (l6 : K.lookup f6 = some ⟨oc6, od6, .func (fnOf "traces_to_ends" "traces_to_ends" (defArgs s_traces_to_ends) (defBody s_traces_to_ends) (defScope s_traces_to_ends) .none kV6 dc6 pm6 an6 cd6 ct6), sl6⟩) (c6 : codeIn K cd6 "traces_to_ends" = true) (k6 : keepIn K (.ref f6) = true)
    (a7 : nsIn K mainGlobals "useful_rooms" = some (some (.ref f7))) (l7 : K.lookup f7 = some ⟨oc7, od7, .func (fnOf "useful_rooms" "useful_rooms" (defArgs s_useful_rooms) (defBody s_useful_rooms) (defScope s_useful_rooms) .none kV7 dc7 pm7 an7 cd7 ct7), sl7⟩) (c7 : codeIn K cd7 "useful_rooms" = true) (k7 : keepIn K (.ref f7) = true)
    (a8 : nsIn K mainGlobals "marks_kept" = some (some (.ref f8))) (l8 : K.lookup f8 = some ⟨oc8, od8, .func (fnOf "marks_kept" "marks_kept" (defArgs s_marks_kept) (defBody s_marks_kept) (defScope s_marks_kept) .none kV8 dc8 pm8 an8 cd8 ct8), sl8⟩) (c8 : codeIn K cd8 "marks_kept" = true) (k8 : keepIn K (.ref f8) = true)
    (a9 : nsIn K mainGlobals "steps_kept" = some (some (.ref f9))) (l9 : K.lookup f9 = some ⟨oc9, od9, .func (fnOf "steps_kept" "steps_kept" (defArgs s_steps_kept) (defBody s_steps_kept) (defScope s_steps_kept) .none kV9 dc9 pm9 an9 cd9 ct9), sl9⟩) (c9 : codeIn K cd9 "steps_kept" = true) (k9 : keepIn K (.ref f9) = true)
    (a10 : nsIn K mainGlobals "trimmed_of" = some (some (.ref f10))) (l10 : K.lookup f10 = some ⟨oc10, od10, .func (fnOf "trimmed_of" "trimmed_of" (defArgs s_trimmed_of) (defBody s_trimmed_of) (defScope s_trimmed_of) .none kV10 dc10 pm10 an10 cd10 ct10), sl10⟩) (c10 : codeIn K cd10 "trimmed_of" = true) (k10 : keepIn K (.ref f10) = true)
    (a11 : nsIn K mainGlobals "shared_length" = some (some (.ref f11))) (l11 : K.lookup f11 = some ⟨oc11, od11, .func (fnOf "shared_length" "shared_length" (defArgs s_shared_length) (defBody s_shared_length) (defScope s_shared_length) .none kV11 dc11 pm11 an11 cd11 ct11), sl11⟩) (c11 : codeIn K cd11 "shared_length" = true) (k11 : keepIn K (.ref f11) = true)
    (a12 : nsIn K mainGlobals "words_to_ends" = some (some (.ref f12))) (l12 : K.lookup f12 = some ⟨oc12, od12, .func (fnOf "words_to_ends" "words_to_ends" (defArgs s_words_to_ends) (defBody s_words_to_ends) (defScope s_words_to_ends) .none kV12 dc12 pm12 an12 cd12 ct12), sl12⟩) (c12 : codeIn K cd12 "words_to_ends" = true) (k12 : keepIn K (.ref f12) = true)
    (a13 : nsIn K mainGlobals "steps_by_goal" = some (some (.ref f13))) (l13 : K.lookup f13 = some ⟨oc13, od13, .func (fnOf "steps_by_goal" "steps_by_goal" (defArgs s_steps_by_goal) (defBody s_steps_by_goal) (defScope s_steps_by_goal) .none kV13 dc13 pm13 an13 cd13 ct13), sl13⟩) (c13 : codeIn K cd13 "steps_by_goal" = true) (k13 : keepIn K (.ref f13) = true)
    (a14 : nsIn K mainGlobals "shorten_by" = some (some (.ref f14))) (l14 : K.lookup f14 = some ⟨oc14, od14, .func (fnOf "shorten_by" "shorten_by" (defArgs s_shorten_by) (defBody s_shorten_by) (defScope s_shorten_by) .none kV14 dc14 pm14 an14 cd14 ct14), sl14⟩) (c14 : codeIn K cd14 "shorten_by" = true) (k14 : keepIn K (.ref f14) = true)
    (a15 : nsIn K mainGlobals "heads_by_room" = some (some (.ref f15))) (l15 : K.lookup f15 = some ⟨oc15, od15, .func (fnOf "heads_by_room" "heads_by_room" (defArgs s_heads_by_room) (defBody s_heads_by_room) (defScope s_heads_by_room) .none kV15 dc15 pm15 an15 cd15 ct15), sl15⟩) (c15 : codeIn K cd15 "heads_by_room" = true) (k15 : keepIn K (.ref f15) = true)
    (a16 : nsIn K mainGlobals "heads_of" = some (some (.ref f16))) (l16 : K.lookup f16 = some ⟨oc16, od16, .func (fnOf "heads_of" "heads_of" (defArgs s_heads_of) (defBody s_heads_of) (defScope s_heads_of) .none kV16 dc16 pm16 an16 cd16 ct16), sl16⟩) (c16 : codeIn K cd16 "heads_of" = true) (k16 : keepIn K (.ref f16) = true)
    (a17 : nsIn K mainGlobals "earlier_step" = some (some (.ref f17))) (l17 : K.lookup f17 = some ⟨oc17, od17, .func (fnOf "earlier_step" "earlier_step" (defArgs s_earlier_step) (defBody s_earlier_step) (defScope s_earlier_step) .none kV17 dc17 pm17 an17 cd17 ct17), sl17⟩) (c17 : codeIn K cd17 "earlier_step" = true) (k17 : keepIn K (.ref f17) = true)
    (a18 : nsIn K mainGlobals "earliest_of" = some (some (.ref f18))) (l18 : K.lookup f18 = some ⟨oc18, od18, .func (fnOf "earliest_of" "earliest_of" (defArgs s_earliest_of) (defBody s_earliest_of) (defScope s_earliest_of) .none kV18 dc18 pm18 an18 cd18 ct18), sl18⟩) (c18 : codeIn K cd18 "earliest_of" = true) (k18 : keepIn K (.ref f18) = true)
    (a19 : nsIn K mainGlobals "_law_cell_at" = some (some (.ref f19))) (l19 : K.lookup f19 = some ⟨oc19, od19, .func (fnOf "_law_cell_at" "_law_cell_at" (defArgs s_law_cell_at) (defBody s_law_cell_at) (defScope s_law_cell_at) .none kV19 dc19 pm19 an19 cd19 ct19), sl19⟩) (c19 : codeIn K cd19 "_law_cell_at" = true) (k19 : keepIn K (.ref f19) = true)
    (a20 : nsIn K mainGlobals "_law_whole" = some (some (.ref f20))) (l20 : K.lookup f20 = some ⟨oc20, od20, .func (fnOf "_law_whole" "_law_whole" (defArgs s_law_whole) (defBody s_law_whole) (defScope s_law_whole) .none kV20 dc20 pm20 an20 cd20 ct20), sl20⟩) (c20 : codeIn K cd20 "_law_whole" = true) (k20 : keepIn K (.ref f20) = true)
    (a21 : nsIn K mainGlobals "_law_mixed" = some (some (.ref f21))) (l21 : K.lookup f21 = some ⟨oc21, od21, .func (fnOf "_law_mixed" "_law_mixed" (defArgs s_law_mixed) (defBody s_law_mixed) (defScope s_law_mixed) .none kV21 dc21 pm21 an21 cd21 ct21), sl21⟩) (c21 : codeIn K cd21 "_law_mixed" = true) (k21 : keepIn K (.ref f21) = true)
    (a22 : nsIn K mainGlobals "_law_word" = some (some (.ref f22))) (l22 : K.lookup f22 = some ⟨oc22, od22, .func (fnOf "_law_word" "_law_word" (defArgs s_law_word) (defBody s_law_word) (defScope s_law_word) .none kV22 dc22 pm22 an22 cd22 ct22), sl22⟩) (c22 : codeIn K cd22 "_law_word" = true) (k22 : keepIn K (.ref f22) = true)
    (a23 : nsIn K mainGlobals "_law_signs" = some (some (.ref f23))) (l23 : K.lookup f23 = some ⟨oc23, od23, .func (fnOf "_law_signs" "_law_signs" (defArgs s_law_signs) (defBody s_law_signs) (defScope s_law_signs) .none kV23 dc23 pm23 an23 cd23 ct23), sl23⟩) (c23 : codeIn K cd23 "_law_signs" = true) (k23 : keepIn K (.ref f23) = true)
    (a24 : nsIn K mainGlobals "_law_rest" = some (some (.ref f24))) (l24 : K.lookup f24 = some ⟨oc24, od24, .func (fnOf "_law_rest" "_law_rest" (defArgs s_law_rest) (defBody s_law_rest) (defScope s_law_rest) .none kV24 dc24 pm24 an24 cd24 ct24), sl24⟩) (c24 : codeIn K cd24 "_law_rest" = true) (k24 : keepIn K (.ref f24) = true)
    (a25 : nsIn K mainGlobals "_law_plain" = some (some (.ref f25))) (l25 : K.lookup f25 = some ⟨oc25, od25, .func (fnOf "_law_plain" "_law_plain" (defArgs s_law_plain) (defBody s_law_plain) (defScope s_law_plain) .none kV25 dc25 pm25 an25 cd25 ct25), sl25⟩) (c25 : codeIn K cd25 "_law_plain" = true) (k25 : keepIn K (.ref f25) = true)
    (a26 : nsIn K mainGlobals "_law_is_scribe" = some (some (.ref f26))) (l26 : K.lookup f26 = some ⟨oc26, od26, .func (fnOf "_law_is_scribe" "_law_is_scribe" (defArgs s_law_is_scribe) (defBody s_law_is_scribe) (defScope s_law_is_scribe) .none kV26 dc26 pm26 an26 cd26 ct26), sl26⟩) (c26 : codeIn K cd26 "_law_is_scribe" = true) (k26 : keepIn K (.ref f26) = true)
    (a27 : nsIn K mainGlobals "_law_run" = some (some (.ref f27))) (l27 : K.lookup f27 = some ⟨oc27, od27, .func (fnOf "_law_run" "_law_run" (defArgs s_law_run) (defBody s_law_run) (defScope s_law_run) .none kV27 dc27 pm27 an27 cd27 ct27), sl27⟩) (c27 : codeIn K cd27 "_law_run" = true) (k27 : keepIn K (.ref f27) = true)
    (a28 : nsIn K mainGlobals "_law_text" = some (some (.ref f28))) (l28 : K.lookup f28 = some ⟨oc28, od28, .func (fnOf "_law_text" "_law_text" (defArgs s_law_text) (defBody s_law_text) (defScope s_law_text) .none kV28 dc28 pm28 an28 cd28 ct28), sl28⟩) (c28 : codeIn K cd28 "_law_text" = true) (k28 : keepIn K (.ref f28) = true)
    (a29 : nsIn K mainGlobals "_law_follow" = some (some (.ref f29))) (l29 : K.lookup f29 = some ⟨oc29, od29, .func (fnOf "_law_follow" "_law_follow" (defArgs s_law_follow) (defBody s_law_follow) (defScope s_law_follow) .none kV29 dc29 pm29 an29 cd29 ct29), sl29⟩) (c29 : codeIn K cd29 "_law_follow" = true) (k29 : keepIn K (.ref f29) = true)
    (a30 : nsIn K mainGlobals "_law_rooms_good" = some (some (.ref f30))) (l30 : K.lookup f30 = some ⟨oc30, od30, .func (fnOf "_law_rooms_good" "_law_rooms_good" (defArgs s_law_rooms_good) (defBody s_law_rooms_good) (defScope s_law_rooms_good) .none kV30 dc30 pm30 an30 cd30 ct30), sl30⟩) (c30 : codeIn K cd30 "_law_rooms_good" = true) (k30 : keepIn K (.ref f30) = true)
    (a31 : nsIn K mainGlobals "_law_firsts" = some (some (.ref f31))) (l31 : K.lookup f31 = some ⟨oc31, od31, .func (fnOf "_law_firsts" "_law_firsts" (defArgs s_law_firsts) (defBody s_law_firsts) (defScope s_law_firsts) .none kV31 dc31 pm31 an31 cd31 ct31), sl31⟩) (c31 : codeIn K cd31 "_law_firsts" = true) (k31 : keepIn K (.ref f31) = true)
    (a32 : nsIn K mainGlobals "law" = some (some (.ref f32))) (l32 : K.lookup f32 = some ⟨oc32, od32, .func (fnOf "law" "law" (defArgs s_law) (defBody s_law) (defScope s_law) .none kV32 dc32 pm32 an32 cd32 ct32), sl32⟩) (c32 : codeIn K cd32 "law" = true) (k32 : keepIn K (.ref f32) = true)
    (z0 : nsIn K mainGlobals "bool" = some none)
    (z1 : nsIn K mainGlobals "enumerate" = some none)
    (z2 : nsIn K mainGlobals "int" = some none)
    (z3 : nsIn K mainGlobals "isinstance" = some none)
    (z4 : nsIn K mainGlobals "len" = some none)
    (z5 : nsIn K mainGlobals "list" = some none)
    (z6 : nsIn K mainGlobals "max" = some none)
    (z7 : nsIn K mainGlobals "min" = some none)
    (z8 : nsIn K mainGlobals "range" = some none)
    (z9 : nsIn K mainGlobals "set" = some none)
    (z10 : nsIn K mainGlobals "sorted" = some none)
    (z11 : nsIn K mainGlobals "str" = some none)
    (z12 : nsIn K mainGlobals "tuple" = some none)
    (z13 : nsIn K mainGlobals "zip" = some none)
    {gt0 : Tok} (g0 : nsIn K mainGlobals "BEGINS" = some (some (.int 2 gt0)))
    {gt1 : Tok} (g1 : nsIn K mainGlobals "ENDS" = some (some (.int 4 gt1)))
    {gt2 : Tok} (g2 : nsIn K mainGlobals "INTO" = some (some (.int 3 gt2)))
    {gt3 : Tok} (g3 : nsIn K mainGlobals "OUT_OF" = some (some (.int 0 gt3)))
    {gt4 : Tok} (g4 : nsIn K mainGlobals "ROOMS" = some (some (.int 1 gt4)))
    {gt5 : Tok} (g5 : nsIn K mainGlobals "SIGNS" = some (some (.int 0 gt5)))
    {gt6 : Tok} (g6 : nsIn K mainGlobals "STEPS" = some (some (.int 3 gt6)))
    (x0 : nsIn K mainGlobals "NotPlain" = some (some (.ref c_NotPlain)))
    (x1 : PySem.W.excIn K c_NotPlain bmV "ValueError.__new__" = true)
    (x2 : findIn K (.ref c_NotPlain) "__getattribute__" = some (some (.builtin "BaseException.__getattribute__")))
    (x3 : findIn K (.ref c_NotPlain) "__getattr__" = some none)
    (x4 : mroIn K c_NotPlain (.type "BaseException") = some true)
    (x5 : (PySem.W.clsIn K c_NotPlain).isSome = true)
    (x6 : findIn K (.ref c_NotPlain) "__class__" = some (some (.builtin "object.__class__")))
    (x7 : PySem.W.specialIn K (.builtin "object.__class__") "__get__" = some (some (.builtin "getset_descriptor.__get__")))
    (x8 : PySem.W.takesIn K (.builtin "object.__class__") = some true)
    (x9 : mroIn K c_NotPlain (.type "object") = some true) :
    ∃ fd : FuncData, (∀ (s : Shared) (v : Value), BindsTo s fd ⟨[v], []⟩ [("_law_script", v)]) ∧ ∀ base : Heap, K.In base → base.Ns mainGlobals mg → FnOk l.prog w K mg base CX0 8 fa fd ["_law_script"] (spLaw K) := by
  have e := hfa.symm.trans (mg_of X G a32)
  cases e
  have B : Bi mg := ⟨mg_none_of X G z0, mg_none_of X G z1, mg_none_of X G z2, mg_none_of X G z3, mg_none_of X G z4, mg_none_of X G z5, mg_none_of X G z6, mg_none_of X G z7, mg_none_of X G z8, mg_none_of X G z9, mg_none_of X G z10, mg_none_of X G z11, mg_none_of X G z12, mg_none_of X G z13, ⟨_, mg_of X G g0⟩, ⟨_, mg_of X G g1⟩, ⟨_, mg_of X G g2⟩, ⟨_, mg_of X G g3⟩, ⟨_, mg_of X G g4⟩, ⟨_, mg_of X G g5⟩, ⟨_, mg_of X G g6⟩⟩
  have nm_NotPlain := mg_of X G x0
  have own_NotPlain : OwnX K mg "NotPlain" c_NotPlain := ⟨nm_NotPlain, x1⟩
  have xc_NotPlain : XCls K c_NotPlain := ⟨x2, x3, x4, x5, x6, x7, x8, x9⟩
  have XB : Xb K mg c_NotPlain := ⟨nm_NotPlain, own_NotPlain, xc_NotPlain⟩
  have F0 := fun_mk (st := s_all_unlike) l0 c0 k0
  have F1 := fun_mk (st := s_is_plain) l1 c1 k1
  have F2 := fun_mk (st := s_refuse_choices) l2 c2 k2
  have F3 := fun_mk (st := s_places_at) l3 c3 k3
  have F4 := fun_mk (st := s_traces_from) l4 c4 k4
  have F5 := fun_mk (st := s_traces_from_begins) l5 c5 k5
  have F6 := fun_mk (st := s_traces_to_ends) l6 c6 k6
  have F7 := fun_mk (st := s_useful_rooms) l7 c7 k7
  have F8 := fun_mk (st := s_marks_kept) l8 c8 k8
  have F9 := fun_mk (st := s_steps_kept) l9 c9 k9
  have F10 := fun_mk (st := s_trimmed_of) l10 c10 k10
  have F11 := fun_mk (st := s_shared_length) l11 c11 k11
  have F12 := fun_mk (st := s_words_to_ends) l12 c12 k12
  have F13 := fun_mk (st := s_steps_by_goal) l13 c13 k13
  have F14 := fun_mk (st := s_shorten_by) l14 c14 k14
  have F15 := fun_mk (st := s_heads_by_room) l15 c15 k15
  have F16 := fun_mk (st := s_heads_of) l16 c16 k16
  have F17 := fun_mk (st := s_earlier_step) l17 c17 k17
  have F18 := fun_mk (st := s_earliest_of) l18 c18 k18
  have F19 := fun_mk (st := s_law_cell_at) l19 c19 k19
  have F20 := fun_mk (st := s_law_whole) l20 c20 k20
  have F21 := fun_mk (st := s_law_mixed) l21 c21 k21
  have F22 := fun_mk (st := s_law_word) l22 c22 k22
  have F23 := fun_mk (st := s_law_signs) l23 c23 k23
  have F24 := fun_mk (st := s_law_rest) l24 c24 k24
  have F25 := fun_mk (st := s_law_plain) l25 c25 k25
  have F26 := fun_mk (st := s_law_is_scribe) l26 c26 k26
  have F27 := fun_mk (st := s_law_run) l27 c27 k27
  have F28 := fun_mk (st := s_law_text) l28 c28 k28
  have F29 := fun_mk (st := s_law_follow) l29 c29 k29
  have F30 := fun_mk (st := s_law_rooms_good) l30 c30 k30
  have F31 := fun_mk (st := s_law_firsts) l31 c31 k31
  have F32 := fun_mk (st := s_law) l32 c32 k32
  refine ⟨fnOf "law" "law" (defArgs s_law) (defBody s_law) (defScope s_law) .none kV32 dc32 pm32 an32 cd32 ct32, fun s v => .of_eq rfl, fun base _ _ => ?_⟩
  have C_all_unlike : Cal l.prog w K mg base "all_unlike" ["parts"] 1 (spUnlike K) := ⟨_, _, ok_all_unlike (P := l.prog) (w := w) (base := base) B XB  F0, F0.binds (ps := ["parts"]) (fun _ _ _ _ _ _ us hl => by obtain ⟨u0, rfl⟩ := len_1 hl; rfl), F0.kp, mg_of X G a0⟩
  have C_is_plain : Cal l.prog w K mg base "is_plain" ["scribe"] 2 (spPlain K) := ⟨_, _, ok_is_plain (P := l.prog) (w := w) (base := base) B XB C_all_unlike F1, F1.binds (ps := ["scribe"]) (fun _ _ _ _ _ _ us hl => by obtain ⟨u0, rfl⟩ := len_1 hl; rfl), F1.kp, mg_of X G a1⟩
  have C_refuse_choices : Cal1 l.prog w K mg base "refuse_choices" ["scribe"] 3 (spChoices K c_NotPlain) := ⟨_, _, ok_refuse_choices (P := l.prog) (w := w) (base := base) B XB C_is_plain F2, F2.binds (ps := ["scribe"]) (fun _ _ _ _ _ _ us hl => by obtain ⟨u0, rfl⟩ := len_1 hl; rfl), F2.kp, mg_of X G a2⟩
  have C_places_at : Cal l.prog w K mg base "places_at" ["steps", "side"] 1 (spPlaces K) := ⟨_, _, ok_places_at (P := l.prog) (w := w) (base := base) B XB  F3, F3.binds (ps := ["steps", "side"]) (fun _ _ _ _ _ _ us hl => by obtain ⟨u0, u1, rfl⟩ := len_2 hl; rfl), F3.kp, mg_of X G a3⟩
  have C_traces_from : Cal l.prog w K mg base "traces_from" ["marks", "steps", "near", "far"] 2 (spTraces K) := ⟨_, _, ok_traces_from (P := l.prog) (w := w) (base := base) B XB C_places_at F4, F4.binds (ps := ["marks", "steps", "near", "far"]) (fun _ _ _ _ _ _ us hl => by obtain ⟨u0, u1, u2, u3, rfl⟩ := len_4 hl; rfl), F4.kp, mg_of X G a4⟩
  have C_traces_from_begins : Cal l.prog w K mg base "traces_from_begins" ["scribe"] 3 (spTrB K) := ⟨_, _, ok_traces_from_begins (P := l.prog) (w := w) (base := base) B XB C_traces_from F5, F5.binds (ps := ["scribe"]) (fun _ _ _ _ _ _ us hl => by obtain ⟨u0, rfl⟩ := len_1 hl; rfl), F5.kp, mg_of X G a5⟩
  have C_traces_to_ends : Cal l.prog w K mg base "traces_to_ends" ["scribe"] 3 (spTrE K) := ⟨_, _, ok_traces_to_ends (P := l.prog) (w := w) (base := base) B XB C_traces_from F6, F6.binds (ps := ["scribe"]) (fun _ _ _ _ _ _ us hl => by obtain ⟨u0, rfl⟩ := len_1 hl; rfl), F6.kp, mg_of X G a6⟩
  have C_useful_rooms : Cal l.prog w K mg base "useful_rooms" ["scribe"] 4 (spUseful K) := ⟨_, _, ok_useful_rooms (P := l.prog) (w := w) (base := base) B XB C_traces_to_ends C_traces_from_begins F7, F7.binds (ps := ["scribe"]) (fun _ _ _ _ _ _ us hl => by obtain ⟨u0, rfl⟩ := len_1 hl; rfl), F7.kp, mg_of X G a7⟩
  have C_marks_kept : Cal l.prog w K mg base "marks_kept" ["marks", "numbers"] 1 (spKeptM K) := ⟨_, _, ok_marks_kept (P := l.prog) (w := w) (base := base) B XB  F8, F8.binds (ps := ["marks", "numbers"]) (fun _ _ _ _ _ _ us hl => by obtain ⟨u0, u1, rfl⟩ := len_2 hl; rfl), F8.kp, mg_of X G a8⟩
  have C_steps_kept : Cal l.prog w K mg base "steps_kept" ["steps", "numbers"] 1 (spKeptS K) := ⟨_, _, ok_steps_kept (P := l.prog) (w := w) (base := base) B XB  F9, F9.binds (ps := ["steps", "numbers"]) (fun _ _ _ _ _ _ us hl => by obtain ⟨u0, u1, rfl⟩ := len_2 hl; rfl), F9.kp, mg_of X G a9⟩
  have C_trimmed_of : Cal l.prog w K mg base "trimmed_of" ["scribe"] 5 (spTrim K) := ⟨_, _, ok_trimmed_of (P := l.prog) (w := w) (base := base) B XB C_useful_rooms C_marks_kept C_steps_kept F10, F10.binds (ps := ["scribe"]) (fun _ _ _ _ _ _ us hl => by obtain ⟨u0, rfl⟩ := len_1 hl; rfl), F10.kp, mg_of X G a10⟩
  have C_shared_length : Cal l.prog w K mg base "shared_length" ["one", "other"] 1 (spSharedL) := ⟨_, _, ok_shared_length (P := l.prog) (w := w) (base := base) B XB  F11, F11.binds (ps := ["one", "other"]) (fun _ _ _ _ _ _ us hl => by obtain ⟨u0, u1, rfl⟩ := len_2 hl; rfl), F11.kp, mg_of X G a11⟩
  have C_words_to_ends : Cal l.prog w K mg base "words_to_ends" ["scribe"] 4 (spToEnds K) := ⟨_, _, ok_words_to_ends (P := l.prog) (w := w) (base := base) B XB C_traces_to_ends F12, F12.binds (ps := ["scribe"]) (fun _ _ _ _ _ _ us hl => by obtain ⟨u0, rfl⟩ := len_1 hl; rfl), F12.kp, mg_of X G a12⟩
  have C_steps_by_goal : Cal l.prog w K mg base "steps_by_goal" ["scribe"] 1 (spGoal K) := ⟨_, _, ok_steps_by_goal (P := l.prog) (w := w) (base := base) B XB  F13, F13.binds (ps := ["scribe"]) (fun _ _ _ _ _ _ us hl => by obtain ⟨u0, rfl⟩ := len_1 hl; rfl), F13.kp, mg_of X G a13⟩
  have C_shorten_by : Cal l.prog w K mg base "shorten_by" ["heads", "rooms", "steps"] 2 (spShort K) := ⟨_, _, ok_shorten_by (P := l.prog) (w := w) (base := base) B XB C_shared_length F14, F14.binds (ps := ["heads", "rooms", "steps"]) (fun _ _ _ _ _ _ us hl => by obtain ⟨u0, u1, u2, rfl⟩ := len_3 hl; rfl), F14.kp, mg_of X G a14⟩
  have C_heads_by_room : Cal l.prog w K mg base "heads_by_room" ["scribe"] 5 (spHeadsBy K) := ⟨_, _, ok_heads_by_room (P := l.prog) (w := w) (base := base) B XB C_words_to_ends C_steps_by_goal C_shorten_by F15, F15.binds (ps := ["scribe"]) (fun _ _ _ _ _ _ us hl => by obtain ⟨u0, rfl⟩ := len_1 hl; rfl), F15.kp, mg_of X G a15⟩
  have C_heads_of : Cal1 l.prog w K mg base "heads_of" ["scribe"] 6 (spHeads K c_NotPlain) := ⟨_, _, ok_heads_of (P := l.prog) (w := w) (base := base) B XB C_refuse_choices C_heads_by_room F16, F16.binds (ps := ["scribe"]) (fun _ _ _ _ _ _ us hl => by obtain ⟨u0, rfl⟩ := len_1 hl; rfl), F16.kp, mg_of X G a16⟩
  have C_earlier_step : Cal l.prog w K mg base "earlier_step" ["step", "heads"] 1 (spEStep K) := ⟨_, _, ok_earlier_step (P := l.prog) (w := w) (base := base) B XB  F17, F17.binds (ps := ["step", "heads"]) (fun _ _ _ _ _ _ us hl => by obtain ⟨u0, u1, rfl⟩ := len_2 hl; rfl), F17.kp, mg_of X G a17⟩
  have C_earliest_of : Cal1 l.prog w K mg base "earliest_of" ["scribe"] 7 (spEarliest K c_NotPlain) := ⟨_, _, ok_earliest_of (P := l.prog) (w := w) (base := base) B XB C_refuse_choices C_trimmed_of C_heads_of C_earlier_step F18, F18.binds (ps := ["scribe"]) (fun _ _ _ _ _ _ us hl => by obtain ⟨u0, rfl⟩ := len_1 hl; rfl), F18.kp, mg_of X G a18⟩
  have C_law_cell_at : Cal l.prog w K mg base "_law_cell_at" ["_law_script", "_law_k"] 1 (spCell K) := ⟨_, _, ok_law_cell_at (P := l.prog) (w := w) (base := base) B XB  F19, F19.binds (ps := ["_law_script", "_law_k"]) (fun _ _ _ _ _ _ us hl => by obtain ⟨u0, u1, rfl⟩ := len_2 hl; rfl), F19.kp, mg_of X G a19⟩
  have C_law_whole : Cal l.prog w K mg base "_law_whole" ["_law_found"] 1 (spWholeI K) := ⟨_, _, ok_law_whole (P := l.prog) (w := w) (base := base) B XB  F20, F20.binds (ps := ["_law_found"]) (fun _ _ _ _ _ _ us hl => by obtain ⟨u0, rfl⟩ := len_1 hl; rfl), F20.kp, mg_of X G a20⟩
  have C_law_mixed : Cal l.prog w K mg base "_law_mixed" ["_law_cell", "_law_k"] 1 (spMixed) := ⟨_, _, ok_law_mixed (P := l.prog) (w := w) (base := base) B XB  F21, F21.binds (ps := ["_law_cell", "_law_k"]) (fun _ _ _ _ _ _ us hl => by obtain ⟨u0, u1, rfl⟩ := len_2 hl; rfl), F21.kp, mg_of X G a21⟩
  have C_law_word : Cal l.prog w K mg base "_law_word" ["_law_rest_here"] 1 (spWord) := ⟨_, _, ok_law_word (P := l.prog) (w := w) (base := base) B XB  F22, F22.binds (ps := ["_law_rest_here"]) (fun _ _ _ _ _ _ us hl => by obtain ⟨u0, rfl⟩ := len_1 hl; rfl), F22.kp, mg_of X G a22⟩
  have C_law_signs : Cal l.prog w K mg base "_law_signs" ["_law_number"] 1 (spSigns2) := ⟨_, _, ok_law_signs (P := l.prog) (w := w) (base := base) B XB  F23, F23.binds (ps := ["_law_number"]) (fun _ _ _ _ _ _ us hl => by obtain ⟨u0, rfl⟩ := len_1 hl; rfl), F23.kp, mg_of X G a23⟩
  have C_law_rest : Cal l.prog w K mg base "_law_rest" ["_law_script", "_law_k", "_law_salt"] 2 (spRest K) := ⟨_, _, ok_law_rest (P := l.prog) (w := w) (base := base) B XB C_law_cell_at C_law_mixed F24, F24.binds (ps := ["_law_script", "_law_k", "_law_salt"]) (fun _ _ _ _ _ _ us hl => by obtain ⟨u0, u1, u2, rfl⟩ := len_3 hl; rfl), F24.kp, mg_of X G a24⟩
  have C_law_plain : Cal l.prog w K mg base "_law_plain" ["_law_script", "_law_salt", "_law_most"] 3 (spDrawP K) := ⟨_, _, ok_law_plain (P := l.prog) (w := w) (base := base) B XB C_law_signs C_law_rest C_law_word F25, F25.binds (ps := ["_law_script", "_law_salt", "_law_most"]) (fun _ _ _ _ _ _ us hl => by obtain ⟨u0, u1, u2, rfl⟩ := len_3 hl; rfl), F25.kp, mg_of X G a25⟩
  have C_law_is_scribe : Cal l.prog w K mg base "_law_is_scribe" ["_law_found"] 2 (spIsScr K) := ⟨_, _, ok_law_is_scribe (P := l.prog) (w := w) (base := base) B XB C_law_whole F26, F26.binds (ps := ["_law_found"]) (fun _ _ _ _ _ _ us hl => by obtain ⟨u0, rfl⟩ := len_1 hl; rfl), F26.kp, mg_of X G a26⟩
  have C_law_run : Cal l.prog w K mg base "_law_run" ["_law_scribe", "_law_text_here"] 1 (spRun K) := ⟨_, _, ok_law_run (P := l.prog) (w := w) (base := base) B XB  F27, F27.binds (ps := ["_law_scribe", "_law_text_here"]) (fun _ _ _ _ _ _ us hl => by obtain ⟨u0, u1, rfl⟩ := len_2 hl; rfl), F27.kp, mg_of X G a27⟩
  have C_law_text : Cal l.prog w K mg base "_law_text" ["_law_script", "_law_signs_here", "_law_most"] 2 (spText5 K) := ⟨_, _, ok_law_text (P := l.prog) (w := w) (base := base) B XB C_law_mixed C_law_cell_at F28, F28.binds (ps := ["_law_script", "_law_signs_here", "_law_most"]) (fun _ _ _ _ _ _ us hl => by obtain ⟨u0, u1, u2, rfl⟩ := len_3 hl; rfl), F28.kp, mg_of X G a28⟩
  have C_law_follow : Cal l.prog w K mg base "_law_follow" ["_law_scribe", "_law_script", "_law_most"] 2 (spFollow K) := ⟨_, _, ok_law_follow (P := l.prog) (w := w) (base := base) B XB C_law_mixed C_law_cell_at F29, F29.binds (ps := ["_law_scribe", "_law_script", "_law_most"]) (fun _ _ _ _ _ _ us hl => by obtain ⟨u0, u1, u2, rfl⟩ := len_3 hl; rfl), F29.kp, mg_of X G a29⟩
  have C_law_rooms_good : Cal l.prog w K mg base "_law_rooms_good" ["_law_found"] 1 (spGood K) := ⟨_, _, ok_law_rooms_good (P := l.prog) (w := w) (base := base) B XB  F30, F30.binds (ps := ["_law_found"]) (fun _ _ _ _ _ _ us hl => by obtain ⟨u0, rfl⟩ := len_1 hl; rfl), F30.kp, mg_of X G a30⟩
  have C_law_firsts : Cal l.prog w K mg base "_law_firsts" ["_law_found"] 1 (spFirsts K) := ⟨_, _, ok_law_firsts (P := l.prog) (w := w) (base := base) B XB  F31, F31.binds (ps := ["_law_found"]) (fun _ _ _ _ _ _ us hl => by obtain ⟨u0, rfl⟩ := len_1 hl; rfl), F31.kp, mg_of X G a31⟩
  exact ok_law (P := l.prog) (w := w) (base := base) B XB C_law_plain C_earliest_of C_law_firsts C_law_text C_law_follow C_law_is_scribe C_law_rooms_good C_law_run F32
theorem walk {l : PySem.W.OpenLaw} {q : Program} {loose : List Str} {XP : (Str → Option Value) → Heap → Prop} {YP : World → Heap → Prop} {d : DefRec} {K : Params → Frag} (hn : l.most = some 63) (hdf : d.params.defaults = [])
    (hY : ∀ (w : World) (h : Heap), YP w h → (K w.params).In h)
    (F : ∀ (w : World) (mg : Str → Option Value) (fa : Addr) (h : Heap), (K w.params).In h → h.Ns mainGlobals mg → mg d.name = some (.ref fa) →
      ∃ fd : FuncData, (∀ (s : Shared) (u : Value), BindsTo s fd ⟨[u], []⟩ [("_law_script", u)]) ∧ ∀ base : Heap, (K w.params).In base → base.Ns mainGlobals mg → FnOk l.prog w (K w.params) mg base CX0 8 fa fd ["_law_script"] (spLaw (K w.params))) :
    PySem.W.WalkO q loose XP YP l.row.toRowW d [] (fun f vs => PySem.call f vs) :=
  L2.walk_of (n := 63) (k := 8) (x := "_law_script") (CX := fun _ => CX0) (sp := fun w => spLaw (K w.params)) hn (by decide) hdf ⟨rfl, by decide, by decide⟩ hY F (fun _ _ a ns hl _ hS => ⟨a, ns, rfl, hS, hl, fun _ => rfl⟩) fun _ _ _ _ _ z => z
end My
open PySem PySem.W PyProof.Rows
set_option maxRecDepth 100000 in
set_option maxHeartbeats 0 in
theorem PySem.Challenge.cw_earlyscribe_k33_whole_as_early_as_can_be_holds : PySem.Challenge.rw_earlyscribe_k33_whole_as_early_as_can_be.Holds := by
  w_on; o_law
  refine holds_open (q := My.q) (loose := []) (XP := XL My.q []) (YP := InK My.K) (N := 3134) My.hl (InK.of fun _ => rfl) InK.keeps
    (fun s z => xl_of s (Bool.and_eq_true_iff.mp z).1) XL.keeps (by rfl) (by rfl) (by rfl)
    (fun s z => recFacts_of (Bool.and_eq_true_iff.mp z).2) rfl (by assumption) (by decide +kernel)
    ⟨rfl, rfl, rfl, rfl, rfl, by decide +kernel⟩ ?hw ?hc
  (case hw => w_witness2)
  k_fill
  refine My.walk (l := PySem.Challenge.rw_earlyscribe_k33_whole_as_early_as_can_be) rfl rfl (fun w h Y => Y) ?F
  case F =>
    intro w mg fa h KX G hmg
    refine' My.all_mk KX G hmg ?a0 ?l0 ?c0 ?k0 ?a1 ?l1 ?c1 ?k1 ?a2 ?l2 ?c2 ?k2 ?a3 ?l3 ?c3 ?k3 ?a4 ?l4 ?c4 ?k4 ?a5 ?l5 ?c5 ?k5 ?a6 ?l6 ?c6 ?k6 ?a7 ?l7 ?c7 ?k7 ?a8 ?l8 ?c8 ?k8 ?a9 ?l9 ?c9 ?k9 ?a10 ?l10 ?c10 ?k10 ?a11 ?l11 ?c11 ?k11 ?a12 ?l12 ?c12 ?k12 ?a13 ?l13 ?c13 ?k13 ?a14 ?l14 ?c14 ?k14 ?a15 ?l15 ?c15 ?k15 ?a16 ?l16 ?c16 ?k16 ?a17 ?l17 ?c17 ?k17 ?a18 ?l18 ?c18 ?k18 ?a19 ?l19 ?c19 ?k19 ?a20 ?l20 ?c20 ?k20 ?a21 ?l21 ?c21 ?k21 ?a22 ?l22 ?c22 ?k22 ?a23 ?l23 ?c23 ?k23 ?a24 ?l24 ?c24 ?k24 ?a25 ?l25 ?c25 ?k25 ?a26 ?l26 ?c26 ?k26 ?a27 ?l27 ?c27 ?k27 ?a28 ?l28 ?c28 ?k28 ?a29 ?l29 ?c29 ?k29 ?a30 ?l30 ?c30 ?k30 ?a31 ?l31 ?c31 ?k31 ?a32 ?l32 ?c32 ?k32 ?z0 ?z1 ?z2 ?z3 ?z4 ?z5 ?z6 ?z7 ?z8 ?z9 ?z10 ?z11 ?z12 ?z13 ?gc0 ?gc1 ?gc2 ?gc3 ?gc4 ?gc5 ?gc6 ?xq0 ?xq1 ?xq2 ?xq3 ?xq4 ?xq5 ?xq6 ?xq7 ?xq8 ?xq9
    (case a0 => k_is); (case l0 => k_is); (case c0 => k_is); (case k0 => k_is)
    (case a1 => k_is); (case l1 => k_is); (case c1 => k_is); (case k1 => k_is)
    (case a2 => k_is); (case l2 => k_is); (case c2 => k_is); (case k2 => k_is)
    (case a3 => k_is); (case l3 => k_is); (case c3 => k_is); (case k3 => k_is)
    (case a4 => k_is); (case l4 => k_is); (case c4 => k_is); (case k4 => k_is)
    (case a5 => k_is); (case l5 => k_is); (case c5 => k_is); (case k5 => k_is)
    (case a6 => k_is); (case l6 => k_is); (case c6 => k_is); (case k6 => k_is)
    (case a7 => k_is); (case l7 => k_is); (case c7 => k_is); (case k7 => k_is)
    (case a8 => k_is); (case l8 => k_is); (case c8 => k_is); (case k8 => k_is)
    (case a9 => k_is); (case l9 => k_is); (case c9 => k_is); (case k9 => k_is)
    (case a10 => k_is); (case l10 => k_is); (case c10 => k_is); (case k10 => k_is)
    (case a11 => k_is); (case l11 => k_is); (case c11 => k_is); (case k11 => k_is)
    (case a12 => k_is); (case l12 => k_is); (case c12 => k_is); (case k12 => k_is)
    (case a13 => k_is); (case l13 => k_is); (case c13 => k_is); (case k13 => k_is)
    (case a14 => k_is); (case l14 => k_is); (case c14 => k_is); (case k14 => k_is)
    (case a15 => k_is); (case l15 => k_is); (case c15 => k_is); (case k15 => k_is)
    (case a16 => k_is); (case l16 => k_is); (case c16 => k_is); (case k16 => k_is)
    (case a17 => k_is); (case l17 => k_is); (case c17 => k_is); (case k17 => k_is)
    (case a18 => k_is); (case l18 => k_is); (case c18 => k_is); (case k18 => k_is)
    (case a19 => k_is); (case l19 => k_is); (case c19 => k_is); (case k19 => k_is)
    (case a20 => k_is); (case l20 => k_is); (case c20 => k_is); (case k20 => k_is)
    (case a21 => k_is); (case l21 => k_is); (case c21 => k_is); (case k21 => k_is)
    (case a22 => k_is); (case l22 => k_is); (case c22 => k_is); (case k22 => k_is)
    (case a23 => k_is); (case l23 => k_is); (case c23 => k_is); (case k23 => k_is)
    (case a24 => k_is); (case l24 => k_is); (case c24 => k_is); (case k24 => k_is)
    (case a25 => k_is); (case l25 => k_is); (case c25 => k_is); (case k25 => k_is)
    (case a26 => k_is); (case l26 => k_is); (case c26 => k_is); (case k26 => k_is)
    (case a27 => k_is); (case l27 => k_is); (case c27 => k_is); (case k27 => k_is)
    (case a28 => k_is); (case l28 => k_is); (case c28 => k_is); (case k28 => k_is)
    (case a29 => k_is); (case l29 => k_is); (case c29 => k_is); (case k29 => k_is)
    (case a30 => k_is); (case l30 => k_is); (case c30 => k_is); (case k30 => k_is)
    (case a31 => k_is); (case l31 => k_is); (case c31 => k_is); (case k31 => k_is)
    (case a32 => k_is); (case l32 => k_is); (case c32 => k_is); (case k32 => k_is)
    (case z0 => k_is)
    (case z1 => k_is)
    (case z2 => k_is)
    (case z3 => k_is)
    (case z4 => k_is)
    (case z5 => k_is)
    (case z6 => k_is)
    (case z7 => k_is)
    (case z8 => k_is)
    (case z9 => k_is)
    (case z10 => k_is)
    (case z11 => k_is)
    (case z12 => k_is)
    (case z13 => k_is)
    (case gc0 => k_is)
    (case gc1 => k_is)
    (case gc2 => k_is)
    (case gc3 => k_is)
    (case gc4 => k_is)
    (case gc5 => k_is)
    (case gc6 => k_is)
    (case xq0 => first | k_is | rfl | kernel_rfl)
    (case xq1 => first | k_is | rfl | kernel_rfl)
    (case xq2 => first | k_is | rfl | kernel_rfl)
    (case xq3 => first | k_is | rfl | kernel_rfl)
    (case xq4 => first | k_is | rfl | kernel_rfl)
    (case xq5 => first | k_is | rfl | kernel_rfl)
    (case xq6 => first | k_is | rfl | kernel_rfl)
    (case xq7 => first | k_is | rfl | kernel_rfl)
    (case xq8 => first | k_is | rfl | kernel_rfl)
    (case xq9 => first | k_is | rfl | kernel_rfl)
